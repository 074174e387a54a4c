/-
  chancellaw3.within; Check of plain values; rows of ints.
  chancellaw3.id, Uid: what they return.
  chancellaw3.Uid: what it returns.
  chancellaw3.Plain: what it returns.
  The same, with what is known of the slots together.
-/
import Derived.Test.YthmmplmppchfmaaVdEn
import Derived.Test.YthmmplmppchfmaaEncAll
import Derived.Deep.RegionWith
import Derived.Test.YthmmplmppchfmaaVeK
namespace Go.Proofs.Ythmmplmppchfmaa
open Go.RowKit Go.Sort

set_option maxHeartbeats 1000000 in
theorem within3_any (a n : Int) (hn : 0 < n) (hn1 : n ≤ 4294967296) (w : World) :
    Calls Try.prog 45 #[.int .i64 a, .int .i64 n] w fun e w' => e = .returned (.int .i64 (a % n)) ∧ w' = w := by
  go_enter Try.func45, Try.ntmps45
  go_wp2
  · go_ret
    exact ⟨ret_int (tmod_neg a n hn hn1 (by assumption)), rfl⟩
  · go_ret
    exact ⟨ret_int (tmod_pos a n hn (by assumption)), rfl⟩

/-- What a plain value is told by Check. -/
def chkP : PV → Int
  | .bool _ => 0
  | .long _ => 0
  | .str s => chkT s
  | .uid t i => chkU t i
theorem chkFlat_ofP (p : PV) : chkFlat (ofP p) = chkP p := by
  cases p <;> simp [chkFlat, moreB, SameF, bareR, ofP, chkP, ba]

def smallP : PV → Prop
  | .str s => s.length ≤ 1099511627776
  | .uid t i => t.length ≤ 1099511627776 ∧ i.length ≤ 1099511627776
  | _ => True
theorem intsAt_own {w : World} {B : Nat} {v : Value} {zs : List Int} (h : w.ownsRow B 3 1 v zs.length (zs.map (Value.int .i64))) : ∃ ao cap, v = .slice ao zs.length cap ∧ IntsAt w ao zs := by
  rcases h.2 with ⟨hv, h0⟩ | ⟨g, cap, cur, hv, _, hg, _, _, hcs, hxs⟩
  · exact ⟨none, 0, by rw [hv, h0], fun j hj => by omega⟩
  · refine ⟨_, cap, hv, fun j hj => ⟨g, 0, rfl, (Array.getElem?_eq_some_iff.1 hg).1, ?_⟩⟩
    rw [cell_of_block hg, Nat.zero_add]
    have : (zs.map (Value.int .i64))[j]? = some (.int .i64 zs[j]) := by rw [List.getElem?_map, List.getElem?_eq_getElem hj]; rfl
    rw [← hxs, List.getElem?_take] at this
    split at this
    · simpa using this
    · cases this

theorem infoInt : (Try.prog.info? 3).map (fun i => (i.zero, i.size, i.bytes)) = some (some (.int .i64 0), 1, 8) := by kernel_rfl
theorem runes_txt (zs : List Int) : runes (txt zs) = picks zs := runes_ofL _ (picks_ok zs)
theorem okL_txt (zs : List Int) : okL (txt zs) = true := okL_ofL _ (picks_ok zs)
end Go.Proofs.Ythmmplmppchfmaa

namespace Go.Proofs.Ythmmplmppchfmaa
open Go.RowKit Go.Sort

/-- The text of an id. -/
def idt (xs : List Int) : List UInt8 := txt (xs.take 30)

theorem IntsAt.take {w : World} {ao : Option Addr} {xs : List Int} (h : IntsAt w ao xs) (n : Nat) : IntsAt w ao (xs.take n) := by
  intro j hj
  rw [List.length_take] at hj
  obtain ⟨b, off, e, hb, hc⟩ := h j (by omega)
  exact ⟨b, off, e, hb, by rw [hc, List.getElem_take]⟩

set_option maxHeartbeats 1000000 in
set_option maxRecDepth 1000000 in
theorem id3_any (xs : List Int) (ao : Option Addr) (c : Nat) (w : World) (hl : xs.length ≤ 9223372036854775807) (hc : xs.length ≤ c) (hz : IntsAt w ao xs) :
    Calls Try.prog 70 #[.slice ao xs.length c] w fun e w' => e = .returned (.string (ba (idt xs))) ∧ Below w.heap.size w w' := by
  by_cases h30 : 30 < xs.length
  · have O := lawOf_any (xs.take 30) ao c w (by rw [List.length_take]; omega) (hz.take 30)
    rw [List.length_take, Nat.min_eq_left (by omega)] at O
    have i1 : (30 : Int) < (xs.length : Int) := by omega
    have i2 : (30 : Int) ≤ (c : Int) := by omega
    go_enter Try.func70, Try.ntmps70
    go_wp2_with fail
    refine O.mono ?_
    rintro e w2 ⟨rfl, b2⟩
    go_wp2
    go_ret
    exact ⟨rfl, b2⟩
  · have e1 : xs.take 30 = xs := List.take_of_length_le (by omega)
    have O := lawOf_any xs ao c w hl hz
    have i1 : ¬ (30 : Int) < (xs.length : Int) := by omega
    unfold idt
    rw [e1]
    go_enter Try.func70, Try.ntmps70
    go_wp2_with fail
    refine O.mono ?_
    rintro e w2 ⟨rfl, b2⟩
    go_wp2
    go_ret
    exact ⟨rfl, b2⟩
end Go.Proofs.Ythmmplmppchfmaa

namespace Go.Proofs.Ythmmplmppchfmaa
open Go.RowKit Go.Sort

def tyL : List (List UInt8) := [[85, 115, 101, 114], [71, 114, 111, 117, 112], [68, 111, 99], [65, 99, 116, 105, 111, 110], [95, 120, 57]]
def tyCells : Array Value := #[.string ⟨#[85, 115, 101, 114]⟩, .string ⟨#[71, 114, 111, 117, 112]⟩, .string ⟨#[68, 111, 99]⟩, .string ⟨#[65, 99, 116, 105, 111, 110]⟩, .string ⟨#[95, 120, 57]⟩]
theorem ty_cell (m : Nat) (hm : m < 5) : tyCells[m]? = some (.string (ba (tyL.getD m []))) := by
  match m, hm with
  | 0, _ | 1, _ | 2, _ | 3, _ | 4, _ => rfl

/-- What each slot of the region holds. -/
def uidSp (B m : Nat) (sv : Value) (t i : ByteArray) : Nat → Value → World → Prop
  | 0, v, w => ∃ blk, v = .slice (some ⟨blk, 0, none⟩) 5 5 ∧ blk < w.heap.size ∧ w.cell? ⟨blk, m, none⟩ = some (.string t)
  | 1, v, _ => v = .int .i64 m
  | 2, v, w => ∃ blk, v = .pointer (some ⟨blk, m, none⟩) ∧ blk < w.heap.size ∧ w.cell? ⟨blk, m, none⟩ = some (.string t)
  | 3, v, _ => v = .string t
  | 4, v, _ => v = .pointer (some ⟨B, 2, none⟩)
  | 5, v, _ => v = sv
  | 6, v, _ => v = .string i
  | 7, v, _ => v = .agg #[.string t, .string i]
  | _, _, _ => True

theorem uidSp_up {B m : Nat} {sv : Value} {t i : ByteArray} {w w' : World} (hb : Below w.heap.size w w') : ∀ j u, uidSp B m sv t i j u w → uidSp B m sv t i j u w'
  | 0, _, ⟨blk, e, hl, hc⟩ => ⟨blk, e, Nat.lt_of_lt_of_le hl hb.size, (hb.cell (p := ⟨blk, m, none⟩) hl).trans hc⟩
  | 1, _, h => h
  | 2, _, ⟨blk, e, hl, hc⟩ => ⟨blk, e, Nat.lt_of_lt_of_le hl hb.size, (hb.cell (p := ⟨blk, m, none⟩) hl).trans hc⟩
  | 3, _, h => h
  | 4, _, h => h
  | 5, _, h => h
  | 6, _, h => h
  | 7, _, h => h
  | _ + 8, _, _ => trivial

set_option maxHeartbeats 4000000 in
set_option maxRecDepth 1000000 in
theorem uid3_of (k n : Int) (xs : List Int) (so : Option Addr) (sc : Nat) (lo : Option Addr) (ll lc : Nat) (w : World) (hl : xs.length ≤ 9223372036854775807) (hc : xs.length ≤ sc) (hz : IntsAt w so xs) (m : Nat) (hm : m < 5) (hn : n.tmod 5 = m) :
    Calls Try.prog 71 #[.agg #[.int .i64 k, .int .i64 n, .slice so xs.length sc, .slice lo ll lc]] w fun e w' => e = .returned (.agg #[.string (ba (tyL.getD m [])), .string (ba (idt xs))]) ∧ Below w.heap.size w w' := by
  have ID := fun w' hz' => id3_any xs so sc w' hl hc hz'
  have h0 : ¬ ((m : Int) < 0) := by omega
  have hty := ty_cell m hm
  generalize ba (tyL.getD m []) = ty at *
  go_enter Try.func71, Try.ntmps71
  go_wp2_with fail
  generalize hw2 : (w.alloc (.cells #[.int .i64 k, .int .i64 n, .slice so xs.length sc, .slice lo ll lc] 71)).alloc (.cells #[.string ⟨#[]⟩, .string ⟨#[]⟩] 28) = w2
  have b02 : Below w.heap.size w w2 := by rw [← hw2]; exact below2 _ _ _
  have z2 : w2.heap.size = w.heap.size + 2 := by rw [← hw2]; simp
  have c2 : w2.cell? ⟨w.heap.size, 2, none⟩ = some (.slice so xs.length sc) := by rw [← hw2]; simp
  have d0 : (w2.cell? ⟨w.heap.size + 1, 0, none⟩).isSome = true := by rw [← hw2]; simp
  have d1 : (w2.cell? ⟨w.heap.size + 1, 1, none⟩).isSome = true := by rw [← hw2]; simp
  have g0 : w2.frozen? ⟨w.heap.size + 1, 0, none⟩ = false := by rw [← hw2]; simp
  have g1 : w2.frozen? ⟨w.heap.size + 1, 1, none⟩ = false := by rw [← hw2]; simp
  clear hw2
  have Z2 := hide z2
  clear z2
  refine wp_specs 8 (uidSp w.heap.size m (.slice so xs.length sc) ty (ba (idt xs))) (fun w' => Below w2.heap.size w2 w') (by kernel_rfl) (by kernel_rfl) (Below.refl _ w2).drew ?_ ?_
  · intro i o hi ho a' w' hR hdep hslot K hK
    match i, hi with
    | 0, _ =>
      cases ho
      unfold Oper.wp
      go_simp
      exact hK _ _ ⟨w'.heap.size, rfl, by simp, by rw [World.cell?_alloc_at _ _ _ _ rfl]; exact hty⟩ (hR.alloc hR.size _) (uidSp_up (below1 _ _))
    | 1, _ =>
      cases ho
      have e : a'.tmps.getD 3 undef = .int .i64 m := hslot 3 (by decide)
      unfold Oper.wp
      go_simp
      exact hK _ _ rfl hR (fun _ _ h => h)
    | 2, _ =>
      cases ho
      obtain ⟨blk, e1, hb, hcell⟩ : uidSp _ _ _ _ _ 0 (a'.tmps.getD 11 undef) w' := hdep 0 (by kernel_rfl)
      have e2 : a'.tmps.getD 12 undef = .int .i64 m := hdep 1 (by kernel_rfl)
      have hm5 : (m : Int) < 5 := by omega
      unfold Oper.wp
      go_simp
      exact hK _ _ ⟨blk, rfl, hb, hcell⟩ hR (fun _ _ h => h)
    | 3, _ =>
      cases ho
      obtain ⟨blk, e1, hb, hcell⟩ : uidSp _ _ _ _ _ 2 (a'.tmps.getD 13 undef) w' := hdep 2 (by kernel_rfl)
      unfold Oper.wp
      go_simp
      exact hK _ _ rfl hR (fun _ _ h => h)
    | 4, _ =>
      cases ho
      have e : a'.tmps.getD 1 undef = .pointer (some ⟨w.heap.size, 0, none⟩) := hslot 1 (by decide)
      unfold Oper.wp
      go_simp
      exact hK _ _ rfl hR (fun _ _ h => h)
    | 5, _ =>
      cases ho
      have e : a'.tmps.getD 15 undef = .pointer (some ⟨w.heap.size, 2, none⟩) := hdep 4 (by kernel_rfl)
      have c3 := (hR.cell (p := ⟨w.heap.size, 2, none⟩) (by have := unhide Z2; show w.heap.size < _; omega)).trans c2
      unfold Oper.wp
      go_simp
      exact hK _ _ rfl hR (fun _ _ h => h)
    | 6, _ =>
      cases ho
      have e : a'.tmps.getD 16 undef = .slice so xs.length sc := hdep 5 (by kernel_rfl)
      have ID' := ID w' ((hz.below b02).below hR)
      clear ID
      unfold Oper.wp
      go_simp
      refine ID'.mono ?_
      rintro e w3 ⟨rfl, b3⟩
      exact hK _ _ rfl (hR.trans (b3.mono hR.size)) (uidSp_up b3)
    | 7, _ =>
      cases ho
      have e1 : a'.tmps.getD 14 undef = .string ty := hdep 3 (by kernel_rfl)
      have e2 : a'.tmps.getD 17 undef = .string (ba (idt xs)) := hdep 6 (by kernel_rfl)
      have e1' : a'.tmps[14]?.getD undef = .string ty := by simpa using e1
      have e2' : a'.tmps[17]?.getD undef = .string (ba (idt xs)) := by simpa using e2
      unfold Oper.wp
      go_simp
      exact hK _ _ rfl hR (fun _ _ h => h)
  · intro a' w' hR hall hslot hdef hsz
    have e2 : a'.tmps.getD 2 undef = .pointer (some ⟨w.heap.size + 1, 0, none⟩) := hslot 2 (by decide)
    have e18 : a'.tmps.getD 18 undef = .agg #[.string ty, .string (ba (idt xs))] := hall 7 (by decide)
    have k0 := (hR.cell (p := ⟨w.heap.size + 1, 0, none⟩) (by have := unhide Z2; show w.heap.size + 1 < _; omega))
    have k1 := (hR.cell (p := ⟨w.heap.size + 1, 1, none⟩) (by have := unhide Z2; show w.heap.size + 1 < _; omega))
    have f0 := (hR.frozen (p := ⟨w.heap.size + 1, 0, none⟩) (by have := unhide Z2; show w.heap.size + 1 < _; omega)).trans g0
    have f1 := (hR.frozen (p := ⟨w.heap.size + 1, 1, none⟩) (by have := unhide Z2; show w.heap.size + 1 < _; omega)).trans g1
    rw [← k0] at d0
    rw [← k1] at d1
    obtain ⟨x0, hx0⟩ := Option.isSome_iff_exists.1 d0
    obtain ⟨x1, hx1⟩ := Option.isSome_iff_exists.1 d1
    have b03 := b02.trans (hR.mono b02.size)
    have e2' : a'.tmps[2]?.getD undef = .pointer (some ⟨w.heap.size + 1, 0, none⟩) := by simpa using e2
    clear k0 k1 d0 d1 hall hslot
    simp only [List.drop_succ_cons, List.drop_zero]
    go_wp2
    exact bodyPost_ret (v := .agg #[.string ty, .string (ba (idt xs))]) (by simp [results, Try.results71, go_sem, e2', hx0, hx1]) hdef ⟨rfl, (b03.setCell (p := ⟨w.heap.size + 1, 0, none⟩) (Nat.le_succ _) _).setCell (p := ⟨w.heap.size + 1, 1, none⟩) (Nat.le_succ _) _⟩
set_option maxHeartbeats 4000000 in
set_option maxRecDepth 1000000 in
theorem uid3_neg (k n : Int) (xs : List Int) (so : Option Addr) (sc : Nat) (lo : Option Addr) (ll lc : Nat) (w : World) (hl : xs.length ≤ 9223372036854775807) (hc : xs.length ≤ sc) (hz : IntsAt w so xs) (m : Nat) (hm : m < 5) (hp : 0 < m) (hn : n.tmod 5 = -(m : Int)) :
    Calls Try.prog 71 #[.agg #[.int .i64 k, .int .i64 n, .slice so xs.length sc, .slice lo ll lc]] w fun e w' => e = .returned (.agg #[.string (ba (tyL.getD m [])), .string (ba (idt xs))]) ∧ Below w.heap.size w w' := by
  have ID := fun w' hz' => id3_any xs so sc w' hl hc hz'
  have h0 : -(m : Int) < 0 := by omega
  have hwr : IntKind.i64.wrap (m : Int) = m := by rw [IntKind.wrap_i64]; omega
  have hty := ty_cell m hm
  generalize ba (tyL.getD m []) = ty at *
  go_enter Try.func71, Try.ntmps71
  go_wp2_with fail
  generalize hw2 : (w.alloc (.cells #[.int .i64 k, .int .i64 n, .slice so xs.length sc, .slice lo ll lc] 71)).alloc (.cells #[.string ⟨#[]⟩, .string ⟨#[]⟩] 28) = w2
  have b02 : Below w.heap.size w w2 := by rw [← hw2]; exact below2 _ _ _
  have z2 : w2.heap.size = w.heap.size + 2 := by rw [← hw2]; simp
  have c2 : w2.cell? ⟨w.heap.size, 2, none⟩ = some (.slice so xs.length sc) := by rw [← hw2]; simp
  have d0 : (w2.cell? ⟨w.heap.size + 1, 0, none⟩).isSome = true := by rw [← hw2]; simp
  have d1 : (w2.cell? ⟨w.heap.size + 1, 1, none⟩).isSome = true := by rw [← hw2]; simp
  have g0 : w2.frozen? ⟨w.heap.size + 1, 0, none⟩ = false := by rw [← hw2]; simp
  have g1 : w2.frozen? ⟨w.heap.size + 1, 1, none⟩ = false := by rw [← hw2]; simp
  clear hw2
  have Z2 := hide z2
  clear z2
  refine wp_specs 8 (uidSp w.heap.size m (.slice so xs.length sc) ty (ba (idt xs))) (fun w' => Below w2.heap.size w2 w') (by kernel_rfl) (by kernel_rfl) (Below.refl _ w2).drew ?_ ?_
  · intro i o hi ho a' w' hR hdep hslot K hK
    match i, hi with
    | 0, _ =>
      cases ho
      unfold Oper.wp
      go_simp
      exact hK _ _ ⟨w'.heap.size, rfl, by simp, by rw [World.cell?_alloc_at _ _ _ _ rfl]; exact hty⟩ (hR.alloc hR.size _) (uidSp_up (below1 _ _))
    | 1, _ =>
      cases ho
      have e : a'.tmps.getD 3 undef = .int .i64 m := hslot 3 (by decide)
      unfold Oper.wp
      go_simp
      exact hK _ _ rfl hR (fun _ _ h => h)
    | 2, _ =>
      cases ho
      obtain ⟨blk, e1, hb, hcell⟩ : uidSp _ _ _ _ _ 0 (a'.tmps.getD 11 undef) w' := hdep 0 (by kernel_rfl)
      have e2 : a'.tmps.getD 12 undef = .int .i64 m := hdep 1 (by kernel_rfl)
      have hm5 : (m : Int) < 5 := by omega
      unfold Oper.wp
      go_simp
      exact hK _ _ ⟨blk, rfl, hb, hcell⟩ hR (fun _ _ h => h)
    | 3, _ =>
      cases ho
      obtain ⟨blk, e1, hb, hcell⟩ : uidSp _ _ _ _ _ 2 (a'.tmps.getD 13 undef) w' := hdep 2 (by kernel_rfl)
      unfold Oper.wp
      go_simp
      exact hK _ _ rfl hR (fun _ _ h => h)
    | 4, _ =>
      cases ho
      have e : a'.tmps.getD 1 undef = .pointer (some ⟨w.heap.size, 0, none⟩) := hslot 1 (by decide)
      unfold Oper.wp
      go_simp
      exact hK _ _ rfl hR (fun _ _ h => h)
    | 5, _ =>
      cases ho
      have e : a'.tmps.getD 15 undef = .pointer (some ⟨w.heap.size, 2, none⟩) := hdep 4 (by kernel_rfl)
      have c3 := (hR.cell (p := ⟨w.heap.size, 2, none⟩) (by have := unhide Z2; show w.heap.size < _; omega)).trans c2
      unfold Oper.wp
      go_simp
      exact hK _ _ rfl hR (fun _ _ h => h)
    | 6, _ =>
      cases ho
      have e : a'.tmps.getD 16 undef = .slice so xs.length sc := hdep 5 (by kernel_rfl)
      have ID' := ID w' ((hz.below b02).below hR)
      clear ID
      unfold Oper.wp
      go_simp
      refine ID'.mono ?_
      rintro e w3 ⟨rfl, b3⟩
      exact hK _ _ rfl (hR.trans (b3.mono hR.size)) (uidSp_up b3)
    | 7, _ =>
      cases ho
      have e1 : a'.tmps.getD 14 undef = .string ty := hdep 3 (by kernel_rfl)
      have e2 : a'.tmps.getD 17 undef = .string (ba (idt xs)) := hdep 6 (by kernel_rfl)
      have e1' : a'.tmps[14]?.getD undef = .string ty := by simpa using e1
      have e2' : a'.tmps[17]?.getD undef = .string (ba (idt xs)) := by simpa using e2
      unfold Oper.wp
      go_simp
      exact hK _ _ rfl hR (fun _ _ h => h)
  · intro a' w' hR hall hslot hdef hsz
    have e2 : a'.tmps.getD 2 undef = .pointer (some ⟨w.heap.size + 1, 0, none⟩) := hslot 2 (by decide)
    have e18 : a'.tmps.getD 18 undef = .agg #[.string ty, .string (ba (idt xs))] := hall 7 (by decide)
    have k0 := (hR.cell (p := ⟨w.heap.size + 1, 0, none⟩) (by have := unhide Z2; show w.heap.size + 1 < _; omega))
    have k1 := (hR.cell (p := ⟨w.heap.size + 1, 1, none⟩) (by have := unhide Z2; show w.heap.size + 1 < _; omega))
    have f0 := (hR.frozen (p := ⟨w.heap.size + 1, 0, none⟩) (by have := unhide Z2; show w.heap.size + 1 < _; omega)).trans g0
    have f1 := (hR.frozen (p := ⟨w.heap.size + 1, 1, none⟩) (by have := unhide Z2; show w.heap.size + 1 < _; omega)).trans g1
    rw [← k0] at d0
    rw [← k1] at d1
    obtain ⟨x0, hx0⟩ := Option.isSome_iff_exists.1 d0
    obtain ⟨x1, hx1⟩ := Option.isSome_iff_exists.1 d1
    have b03 := b02.trans (hR.mono b02.size)
    have e2' : a'.tmps[2]?.getD undef = .pointer (some ⟨w.heap.size + 1, 0, none⟩) := by simpa using e2
    clear k0 k1 d0 d1 hall hslot
    simp only [List.drop_succ_cons, List.drop_zero]
    go_wp2
    exact bodyPost_ret (v := .agg #[.string ty, .string (ba (idt xs))]) (by simp [results, Try.results71, go_sem, e2', hx0, hx1]) hdef ⟨rfl, (b03.setCell (p := ⟨w.heap.size + 1, 0, none⟩) (Nat.le_succ _) _).setCell (p := ⟨w.heap.size + 1, 1, none⟩) (Nat.le_succ _) _⟩

/-- The type's place. -/
def tyI (n : Int) : Nat := (n.tmod 5).natAbs

theorem tmod5 (n : Int) : (n.tmod 5).natAbs < 5 := by
  rw [Int.natAbs_tmod]
  exact Nat.mod_lt _ (by decide)

theorem uid3_any (k n : Int) (xs : List Int) (so : Option Addr) (sc : Nat) (lo : Option Addr) (ll lc : Nat) (w : World) (hl : xs.length ≤ 9223372036854775807) (hc : xs.length ≤ sc) (hz : IntsAt w so xs) :
    Calls Try.prog 71 #[.agg #[.int .i64 k, .int .i64 n, .slice so xs.length sc, .slice lo ll lc]] w fun e w' => e = .returned (.agg #[.string (ba (tyL.getD (tyI n) [])), .string (ba (idt xs))]) ∧ Below w.heap.size w w' := by
  have h5 := tmod5 n
  by_cases h : 0 ≤ n.tmod 5
  · exact uid3_of k n xs so sc lo ll lc w hl hc hz (tyI n) h5 (by unfold tyI; generalize n.tmod 5 = t at *; omega)
  · exact uid3_neg k n xs so sc lo ll lc w hl hc hz (tyI n) h5 (by unfold tyI; generalize n.tmod 5 = t at *; omega) (by unfold tyI; generalize n.tmod 5 = t at *; omega)
end Go.Proofs.Ythmmplmppchfmaa

namespace Go.Proofs.Ythmmplmppchfmaa
open Go.RowKit Go.Sort

/-- What Plain makes, by the kind. -/
def plainV (k : Nat) (n : Int) (xs : List Int) : PV :=
  if k = 1 then .bool (n.tmod 2 == 0) else if k = 2 then .long n else if k = 3 then .str (idt xs) else .uid (tyL.getD (tyI n) []) (idt xs)

set_option maxHeartbeats 2000000 in
set_option maxRecDepth 1000000 in
theorem plain3_any (kd : Nat) (h1 : 1 ≤ kd) (h4 : kd ≤ 4) (k n : Int) (xs : List Int) (so : Option Addr) (sc : Nat) (lo : Option Addr) (ll lc : Nat) (w : World) (hl : xs.length ≤ 9223372036854775807) (hc : xs.length ≤ sc) (hz : IntsAt w so xs) :
    Calls Try.prog 46 #[.agg #[.int .i64 k, .int .i64 n, .slice so xs.length sc, .slice lo ll lc], .int .i64 kd] w fun e w' => e = .returned (ofP (plainV kd n xs)).val ∧ Below w.heap.size w w' := by
  have b2 := below2 w (.cells #[.int .i64 k, .int .i64 n, .slice so xs.length sc, .slice lo ll lc] 71) (.cells #[.int .i64 0, .bool false, .int .i64 0, .string ⟨#[]⟩, .string ⟨#[]⟩, .string ⟨#[]⟩, .slice none 0 0] 49)
  have ID := id3_any xs so sc _ hl hc (hz.below b2)
  have UI := uid3_any k n xs so sc lo ll lc _ hl hc (hz.below b2)
  match kd, h1, h4 with
  | 1, _, _ =>
    have e : plainV 1 n xs = .bool (n.tmod 2 == 0) := rfl
    rw [e]
    clear ID UI
    go_enter Try.func46, Try.ntmps46
    go_wp2
    exact bodyPost_ret (v := .agg #[.int .i64 1, .bool (n.tmod 2 == 0), .int .i64 0, .string ⟨#[]⟩, .string ⟨#[]⟩, .string ⟨#[]⟩, .slice none 0 0]) (by simp [results, Try.results46, go_sem]) rfl ⟨rfl, below2 _ _ _⟩
  | 2, _, _ =>
    have e : plainV 2 n xs = .long n := rfl
    rw [e]
    clear ID UI
    go_enter Try.func46, Try.ntmps46
    go_wp2
    exact bodyPost_ret (v := .agg #[.int .i64 2, .bool false, .int .i64 n, .string ⟨#[]⟩, .string ⟨#[]⟩, .string ⟨#[]⟩, .slice none 0 0]) (by simp [results, Try.results46, go_sem]) rfl ⟨rfl, below2 _ _ _⟩
  | 3, _, _ =>
    have e : plainV 3 n xs = .str (idt xs) := rfl
    rw [e]
    clear UI
    generalize idt xs = ix at *
    go_enter Try.func46, Try.ntmps46
    go_wp2_with fail
    refine ID.mono ?_
    clear ID
    generalize hw2 : (w.alloc _).alloc _ = w2 at *
    rintro e w3 ⟨rfl, b3⟩
    have z2 : w2.heap.size = w.heap.size + 2 := by rw [← hw2]; simp
    have hc : ∀ o, w3.cell? ⟨w.heap.size + 1, o, none⟩ = w2.cell? ⟨w.heap.size + 1, o, none⟩ := fun o => b3.cell (p := ⟨w.heap.size + 1, o, none⟩) (by show w.heap.size + 1 < _; omega)
    have hf : ∀ o, w3.frozen? ⟨w.heap.size + 1, o, none⟩ = w2.frozen? ⟨w.heap.size + 1, o, none⟩ := fun o => b3.frozen (p := ⟨w.heap.size + 1, o, none⟩) (by show w.heap.size + 1 < _; omega)
    have b03 := b2.trans (b3.mono b2.size)
    rw [← hw2] at hc hf
    clear hw2 z2 b3
    go_wp2
    exact bodyPost_ret (v := .agg #[.int .i64 3, .bool false, .int .i64 0, .string (ba ix), .string ⟨#[]⟩, .string ⟨#[]⟩, .slice none 0 0]) (by simp [results, Try.results46, go_sem, hc]) rfl ⟨rfl, set7_below b03 (Nat.le_succ _) _ _ _ _ _ _ _⟩
  | 4, _, _ =>
    have e : plainV 4 n xs = .uid (tyL.getD (tyI n) []) (idt xs) := rfl
    rw [e]
    clear ID
    generalize idt xs = ix at *
    generalize tyL.getD (tyI n) [] = ty at *
    go_enter Try.func46, Try.ntmps46
    go_wp2_with fail
    refine UI.mono ?_
    clear UI
    generalize hw2 : (w.alloc _).alloc _ = w2 at *
    rintro e w3 ⟨rfl, b3⟩
    have z2 : w2.heap.size = w.heap.size + 2 := by rw [← hw2]; simp
    have hc : ∀ o, w3.cell? ⟨w.heap.size + 1, o, none⟩ = w2.cell? ⟨w.heap.size + 1, o, none⟩ := fun o => b3.cell (p := ⟨w.heap.size + 1, o, none⟩) (by show w.heap.size + 1 < _; omega)
    have hf : ∀ o, w3.frozen? ⟨w.heap.size + 1, o, none⟩ = w2.frozen? ⟨w.heap.size + 1, o, none⟩ := fun o => b3.frozen (p := ⟨w.heap.size + 1, o, none⟩) (by show w.heap.size + 1 < _; omega)
    have b03 := b2.trans (b3.mono b2.size)
    rw [← hw2] at hc hf
    clear hw2 z2 b3
    go_wp2
    exact bodyPost_ret (v := .agg #[.int .i64 4, .bool false, .int .i64 0, .string ⟨#[]⟩, .string (ba ty), .string (ba ix), .slice none 0 0]) (by simp [results, Try.results46, go_sem, hc]) rfl ⟨rfl, set7_below b03 (Nat.le_succ _) _ _ _ _ _ _ _⟩
end Go.Proofs.Ythmmplmppchfmaa

namespace Go.Proofs.Ythmmplmppchfmaa
open Go.RowKit Go.Sort

structure KnownA (l : List Oper) (n : Nat) (Sp : Nat → Value → World → Prop) (a : Act) (R : Act → World → Prop) (listed : Array Bool) (a' : Act) (w' : World) : Prop where
  inv : HeadInv .any l.toArray n listed
  sp : ∀ i, i < n → listed.getD i false = true → Sp i (a'.tmps.getD (slotOf l i) undef) w'
  slot : ∀ s, (∀ i, i < n → slotOf l i ≠ s) → a'.tmps.getD s undef = a.tmps.getD s undef
  defers : a'.defers = a.defers
  size : a'.tmps.size = a.tmps.size
  world : R a' w'

theorem wp_specsA {P : Program} {id : Nat} {Q : Exit → Act → World → Prop} {a : Act} {w : World} {l : List Oper} (n : Nat) (Sp : Nat → Value → World → Prop) (R : Act → World → Prop) (hm : P.follows .mixedOrders = true) (hB : frontB l n a.tmps.size = true)
    (hR : R a w.drew)
    (hstep : ∀ i o, i < n → l[i]? = some o → ∀ a' w', R a' w' → (∀ j, waits l i j = true → Sp j (a'.tmps.getD (slotOf l j) undef) w') → (∀ s, (∀ i, i < n → slotOf l i ≠ s) → a'.tmps.getD s undef = a.tmps.getD s undef) →
      ∀ K : Act → World → Prop, (∀ v w'', Sp i v w'' → R (a'.put o.dst v) w'' → (∀ j u, Sp j u w' → Sp j u w'') → K (a'.put o.dst v) w'') → o.wp P a' w' K Q)
    (hend : ∀ a' w', R a' w' → (∀ i, i < n → Sp i (a'.tmps.getD (slotOf l i) undef) w') → (∀ s, (∀ i, i < n → slotOf l i ≠ s) → a'.tmps.getD s undef = a.tmps.getD s undef) → a'.defers = a.defers → a'.tmps.size = a.tmps.size → wpList P l.toArray Q (l.drop n) a' w') :
    (Code.region id l.toArray true).wp P Q a w := by
  simp only [frontB, Bool.and_eq_true, decide_eq_true_eq] at hB
  obtain ⟨⟨⟨⟨⟨⟨hn, hs⟩, hc⟩, hg⟩, hd⟩, hne⟩, hseq⟩ := hB
  have hn' : n < l.toArray.size := by simpa using hn
  have hgo : ∀ i, i < n → ∃ o, l[i]? = some o ∧ o.guard = none ∧ ∀ e ∈ o.after, e.on < i := fun i hi => by
    have := List.all_eq_true.1 hg i (List.mem_range.2 hi)
    cases ho : l[i]? with
    | none => rw [ho] at this; cases this
    | some o =>
      rw [ho] at this
      simp only [Option.map_some, Option.getD_some, Bool.and_eq_true, Option.isNone_iff_eq_none, Array.all_eq_true_iff_forall_mem, decide_eq_true_eq] at this
      exact ⟨o, rfl, this.1, fun e he => this.2 e he⟩
  have hdo : ∀ i, i < n → dstOf l i = some (slotOf l i) ∧ slotOf l i < a.tmps.size := fun i hi => by
    have := List.all_eq_true.1 hd i (List.mem_range.2 hi)
    unfold slotOf
    cases ho : dstOf l i with
    | none => rw [ho] at this; cases this
    | some d =>
      rw [ho] at this
      simp only [Option.map_some, Option.getD_some, decide_eq_true_eq] at this
      exact ⟨rfl, this⟩
  have hnd : ∀ i j, i < n → j < n → slotOf l i = slotOf l j → i = j := fun i j hi hj e => by
    have := List.all_eq_true.1 (List.all_eq_true.1 hne i (List.mem_range.2 hi)) j (List.mem_range.2 hj)
    simp only [Bool.or_eq_true, decide_eq_true_eq] at this
    rcases this with h | h
    · exact h
    · exact absurd (by rw [(hdo i hi).1, (hdo j hj).1, e]) h
  have key : ∀ (f : Nat) (listed : Array Bool) (a' : Act) (w' : World), unl listed n = f → KnownA l n Sp a R listed a' w' → wpAny P .any l.toArray Q (f + (l.length - n)) listed a' w' := by
    intro f
    induction f with
    | zero =>
      intro listed a' w' hu K
      have hall := unl_zero listed n hu
      have hl : listed = (List.replicate n true ++ List.replicate (l.length - n) false).toArray := by
        have hsz : listed.size = l.length := by rw [K.inv.size]; simp
        apply Array.ext
        · simp [hsz]
          omega
        · intro i h1 h2
          by_cases hi : i < n
          · have := hall i hi
            simp [h1] at this
            rw [this]
            simp [hi]
          · have := K.inv.tail i (by omega) (by simp; omega)
            simp [h1] at this
            rw [this]
            simp [List.getElem_append, hi]
      rw [Nat.zero_add, hl]
      have hdl : (l.drop n).length = l.length - n := by simp
      rw [← hdl]
      refine wpAny_of_seq (l.drop n) n _ a' w' (fun j => by simp [List.getElem?_drop]) (by rw [hdl]; exact hseq) ?_
      exact hend a' w' K.world (fun i hi => K.sp i hi (hall i hi)) K.slot K.defers K.size
    | succ f ih =>
      intro listed a' w' hu K
      have hsz : listed.size = l.length := by rw [K.inv.size]; simp
      obtain ⟨i0, hi0, hf0, hlow⟩ := unl_pos listed n (by omega)
      have hu0 : listed.getD i0 true = false := getD_in (by omega) hf0
      rw [show f + 1 + (l.length - n) = (f + (l.length - n)) + 1 by omega]
      refine ⟨fun hnil => ?_, fun i hi => ?_⟩
      · exfalso
        obtain ⟨o, ho, _, hon⟩ := hgo i0 hi0
        have : i0 ∈ Region.ready .any l.toArray listed := mem_ready.2 ⟨hu0, o, by simpa using ho, fun e he _ => hlow _ (hon e he)⟩
        rw [hnil] at this
        cases this
      · obtain ⟨hun, o, ho, hdep⟩ := mem_ready.1 hi
        have hin : i < n := by
          rcases Nat.lt_or_ge i n with h | h
          · exact h
          · exact absurd hi (tail_waits hs hc hn' K.inv _ i0 rfl hi0 hu0 i h)
        have ho' : l[i]? = some o := by simpa using ho
        obtain ⟨o2, ho2, hgd, hon⟩ := hgo i hin
        obtain rfl : o2 = o := Option.some.inj (ho2.symm.trans ho')
        have hdst : o2.dst = some (slotOf l i) := by
          have := (hdo i hin).1
          rw [dstOf, ho'] at this
          simpa using this
        unfold wpOp
        simp only [ho]
        rw [if_pos (by simp [Region.wanted, hgd])]
        left
        refine hstep i o2 hin ho' a' w' K.world (fun j hj => ?_) K.slot _ (fun v w'' hv hRw hup => ?_)
        rotate_left
        · have hput : ∀ s, (a'.put o2.dst v).tmps.getD s undef = if s = slotOf l i then v else a'.tmps.getD s undef := fun s => by
            rw [hdst]
            by_cases hsi : s = slotOf l i
            · subst hsi
              rw [if_pos rfl]
              have : slotOf l i < a'.tmps.size := by rw [K.size]; exact (hdo i hin).2
              simp [Act.put, this]
            · rw [if_neg hsi]
              simp [Act.put, Array.getElem?_setIfInBounds_ne (Ne.symm hsi)]
          refine ih _ _ _ (by have := unl_set listed i (by omega) (getD_both hun) n hin; omega) ⟨K.inv.set hi hin, fun j hj hlj => ?_, fun s hs' => ?_, ?_, ?_, hRw⟩
          · rw [hput]
            by_cases e : j = i
            · subst e
              rw [if_pos rfl]
              exact hv
            · rw [if_neg (fun h => e (hnd j i hj hin h))]
              rw [getD_set_ne false (Ne.symm e)] at hlj
              exact hup j _ (K.sp j hj hlj)
          · rw [hput, if_neg (fun h => hs' i hin h.symm)]
            exact K.slot s hs'
          · rw [hdst]
            exact K.defers
          · rw [hdst]
            simp [Act.put, K.size]
        · have hj' : ∃ e ∈ o2.after, Region.binds .any e = true ∧ e.on = j := by
            unfold waits at hj
            rw [ho'] at hj
            simp only [Option.map_some, Option.getD_some] at hj
            obtain ⟨e, he, hb⟩ := Array.any_eq_true'.1 hj
            simp only [Bool.and_eq_true, beq_iff_eq] at hb
            exact ⟨e, he, hb.1, hb.2⟩
          obtain ⟨e, he, hb, rfl⟩ := hj'
          exact K.sp _ (by have := hon e he; omega) (hdep e he hb)
  refine wp_region_any hm ?_
  have inv0 : HeadInv .any l.toArray n (Array.replicate l.toArray.size false) :=
    ⟨by simp, fun j oj _ hl => (by rw [getD_replicate_false] at hl; cases hl), fun t _ ht => getD_in (by simpa using ht) (getD_replicate_false _ _)⟩
  have hun : ∀ k, unl (Array.replicate l.toArray.size false) k = k := fun k => by
    induction k with
    | zero => rfl
    | succ k ih =>
      unfold unl
      rw [ih, getD_replicate_false]
      rfl
  have := key n (Array.replicate l.toArray.size false) a w.drew (hun n) ⟨inv0, fun i _ hl => (by rw [getD_replicate_false] at hl; cases hl), fun _ _ => rfl, rfl, rfl, hR⟩
  rw [show n + (l.length - n) = l.toArray.size by simp; omega] at this
  exact this

/-- The same, its end over the slots written one by one. -/
theorem wp_specsA_put {P : Program} {id : Nat} {Q : Exit → Act → World → Prop} {a : Act} {w : World} {l : List Oper} (n : Nat) (Sp : Nat → Value → World → Prop) (R : Act → World → Prop) (hm : P.follows .mixedOrders = true) (hB : frontB l n a.tmps.size = true)
    (hR : R a w.drew)
    (hstep : ∀ i o, i < n → l[i]? = some o → ∀ a' w', R a' w' → (∀ j, waits l i j = true → Sp j (a'.tmps.getD (slotOf l j) undef) w') → (∀ s, (∀ i, i < n → slotOf l i ≠ s) → a'.tmps.getD s undef = a.tmps.getD s undef) →
      ∀ K : Act → World → Prop, (∀ v w'', Sp i v w'' → R (a'.put o.dst v) w'' → (∀ j u, Sp j u w' → Sp j u w'') → K (a'.put o.dst v) w'') → o.wp P a' w' K Q)
    (hend : ∀ (v : Nat → Value) w', R (putAll l a v n) w' → (∀ i, i < n → Sp i (v i) w') → wpList P l.toArray Q (l.drop n) (putAll l a v n) w') :
    (Code.region id l.toArray true).wp P Q a w := by
  refine wp_specsA n Sp R hm hB hR hstep ?_
  intro a' w' hRw hall hslot hdef hsz
  simp only [frontB, Bool.and_eq_true, decide_eq_true_eq] at hB
  obtain ⟨⟨⟨⟨⟨⟨_, _⟩, _⟩, _⟩, hd⟩, hne⟩, _⟩ := hB
  have hdo : ∀ i, i < n → dstOf l i = some (slotOf l i) ∧ slotOf l i < a.tmps.size := fun i hi => by
    have := List.all_eq_true.1 hd i (List.mem_range.2 hi)
    unfold slotOf
    cases ho : dstOf l i with
    | none => rw [ho] at this; cases this
    | some d =>
      rw [ho] at this
      simp only [Option.map_some, Option.getD_some, decide_eq_true_eq] at this
      exact ⟨rfl, this⟩
  have hnd : ∀ i j, i < n → j < n → i ≠ j → slotOf l i ≠ slotOf l j := fun i j hi hj hij e => by
    have := List.all_eq_true.1 (List.all_eq_true.1 hne i (List.mem_range.2 hi)) j (List.mem_range.2 hj)
    simp only [Bool.or_eq_true, decide_eq_true_eq] at this
    rcases this with h | h
    · exact hij h
    · exact absurd (by rw [(hdo i hi).1, (hdo j hj).1, e]) h
  have e : a' = putAll l a (fun i => a'.tmps.getD (slotOf l i) undef) n := by
    refine act_ext (by rw [hsz, putAll_size]) (fun s => ?_) (by rw [hdef, putAll_defers])
    by_cases hx : ∃ i, i < n ∧ slotOf l i = s
    · obtain ⟨i, hi, rfl⟩ := hx
      rw [putAll_in l a _ i n hdo (fun j hj hji => hnd j i hj hi hji) hi]
    · have hx' : ∀ i, i < n → slotOf l i ≠ s := fun i hi h => hx ⟨i, hi, h⟩
      rw [putAll_out l a _ s n (fun i hi => (hdo i hi).1) hx', hslot s hx']
  have hRw' := hRw
  rw [e] at hRw'
  rw [e]
  exact hend _ w' hRw' hall
end Go.Proofs.Ythmmplmppchfmaa
