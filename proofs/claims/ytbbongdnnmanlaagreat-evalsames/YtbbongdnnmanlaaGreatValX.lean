/-
  chancelref3.Same of plain values; Holds: what they return.
-/
import Derived.Test.YtbbongdnnmanlaaGreatValW
import Derived.Lib.QuietBelow
import Derived.BigQuiet
import Derived.Deep.QuietTactic
namespace Go.Proofs.YtbbongdnnmanlaaGreat
open Go.RowKit Go.Sort

theorem ba_inj {a b : List UInt8} (h : ba a = ba b) : a = b := by
  have := congrArg (fun x : ByteArray => x.data.toList) h
  simpa [ba] using this

theorem r3same_plain (p q : PV) (ao bo : Option Addr) (ca cb : Nat) (w : World) :
    Calls Tryz.prog 8 #[valP p (.slice ao 0 ca), valP q (.slice bo 0 cb)] w fun e w' => e = .returned (.bool (decide (p = q))) ∧ Below w.heap.size w w' := by
  by_cases h : p = q
  · subst h
    rw [decide_eq_true rfl]
    cases p <;> exact r3same_flat _ _ _ _ _ _ _ _ _ _ _
  · rw [decide_eq_false h]
    cases p <;> cases q <;> refine r3same_unlike _ _ _ _ _ _ _ _ _ _ _ _ _ _ _ _ _ _ ?_ w
    all_goals (rintro ⟨h1, h2, h3, h4, h5, h6⟩; first | exact absurd h1 (by decide) | skip)
    · exact h (by rw [h2])
    · exact h (by rw [h3])
    · exact h (by rw [ba_inj h4])
    · exact h (by rw [ba_inj h5, ba_inj h6])

def cellsP (p : PV) (lv : Value) : List Value :=
  match p with
  | .bool b => [.int .i64 1, .bool b, .int .i64 0, .string (ba []), .string (ba []), .string (ba []), lv]
  | .long n => [.int .i64 2, .bool false, .int .i64 n, .string (ba []), .string (ba []), .string (ba []), lv]
  | .str s => [.int .i64 3, .bool false, .int .i64 0, .string (ba s), .string (ba []), .string (ba []), lv]
  | .uid t i => [.int .i64 4, .bool false, .int .i64 0, .string (ba []), .string (ba t), .string (ba i), lv]

/-- The cells of a slice of plain values. -/
def RowP (w : World) (ao : Option Addr) (l : List PV) : Prop :=
  ∀ j (hj : j < l.length), ∃ b off a0 c0, ao = some ⟨b, off, none⟩ ∧ b < w.heap.size ∧ ∀ c v, (cellsP l[j] (.slice a0 0 c0))[c]? = some v → w.cell? ⟨b, off + j * 7 + c, none⟩ = some v

theorem RowP.below {w w' : World} {ao : Option Addr} {l : List PV} (h : RowP w ao l) (hb : Below w.heap.size w w') : RowP w' ao l := by
  intro j hj
  obtain ⟨b, off, a0, c0, e, hlt, hc⟩ := h j hj
  have := hb.size
  exact ⟨b, off, a0, c0, e, by omega, fun c v hv => (hb.cell (p := ⟨b, off + j * 7 + c, none⟩) hlt).trans (hc c v hv)⟩

set_option maxHeartbeats 1000000 in
theorem r3holds_set (l : List PV) (q : PV) (ao bo : Option Addr) (ca cb : Nat) (w : World) (hl : l.length ≤ 1048576) (hr : RowP w ao l) :
    Calls Tryz.prog 9 #[val7 5 false 0 (ba []) (ba []) (ba []) (.slice ao l.length ca), valP q (.slice bo 0 cb)] w fun e w' => e = .returned (.bool (decide (q ∈ l))) ∧ Below w.heap.size w w' := by
  obtain ⟨k, bb, n, s, t, i, hq⟩ : ∃ k bb n s t i, valP q (.slice bo 0 cb) = val7 k bb n s t i (.slice bo 0 cb) := by
    cases q <;> exact ⟨_, _, _, _, _, _, rfl⟩
  rw [hq]
  unfold val7
  go_enter Tryz.func9, Tryz.ntmps9
  go_wp2
  generalize hw2 : (w.alloc (.cells #[.int .i64 5, .bool false, .int .i64 0, .string (ba []), .string (ba []), .string (ba []), .slice ao l.length ca] 31)).alloc (.cells #[.int .i64 k, .bool bb, .int .i64 n, .string s, .string t, .string i, .slice bo 0 cb] 31) = w2
  have z2 : w2.heap.size = w.heap.size + 2 := by rw [← hw2]; simp
  have b02 : Below w.heap.size w w2 := by rw [← hw2]; exact below2 _ _ _
  have c0 : w2.cell? ⟨w.heap.size, 0, none⟩ = some (.int .i64 5) := by rw [← hw2]; simp
  have c6 : w2.cell? ⟨w.heap.size, 6, none⟩ = some (.slice ao l.length ca) := by rw [← hw2]; simp
  have d0 : w2.cell? ⟨w.heap.size + 1, 0, none⟩ = some (.int .i64 k) := by rw [← hw2]; simp
  have d1 : w2.cell? ⟨w.heap.size + 1, 1, none⟩ = some (.bool bb) := by rw [← hw2]; simp
  have d2 : w2.cell? ⟨w.heap.size + 1, 2, none⟩ = some (.int .i64 n) := by rw [← hw2]; simp
  have d3 : w2.cell? ⟨w.heap.size + 1, 3, none⟩ = some (.string s) := by rw [← hw2]; simp
  have d4 : w2.cell? ⟨w.heap.size + 1, 4, none⟩ = some (.string t) := by rw [← hw2]; simp
  have d5 : w2.cell? ⟨w.heap.size + 1, 5, none⟩ = some (.string i) := by rw [← hw2]; simp
  have d6 : w2.cell? ⟨w.heap.size + 1, 6, none⟩ = some (.slice bo 0 cb) := by rw [← hw2]; simp
  have hr2 := hr.below b02
  clear hw2 hr
  go_loopw [5] (fun iv wr => ∃ i : Nat, iv = .int .i64 i ∧ i ≤ l.length ∧ Below w2.heap.size w2 wr ∧ (q ∈ l ↔ q ∈ l.drop i)) (fun iv _ => l.length - (intOf iv).toNat)
  case atStart => exact ⟨0, by go_num, Nat.zero_le _, Below.refl _ _, by simp⟩
  case round =>
    obtain ⟨j, rfl, hj, hbw, hacc⟩ := hrel
    have Hacc := hide hacc
    clear hacc
    have e0 := (hbw.cell (p := ⟨w.heap.size, 0, none⟩) (by show w.heap.size < _; omega)).trans c0
    have e6 := (hbw.cell (p := ⟨w.heap.size, 6, none⟩) (by show w.heap.size < _; omega)).trans c6
    by_cases hlt : j < l.length
    · have i1 : (j : Int) < (l.length : Int) := by omega
      have i0 : (0 : Int) ≤ (j : Int) := by omega
      obtain ⟨b, off, a0, c0', rfl, hb, hc⟩ := hr2 j hlt
      have SM := r3same_plain l[j] q a0 bo c0' cb
      rw [hq] at SM
      have HS := hide (show q ∈ l.drop j ↔ l[j] = q ∨ q ∈ l.drop (j + 1) by rw [List.drop_eq_getElem_cons hlt, List.mem_cons]; exact ⟨fun h => h.imp Eq.symm id, fun h => h.imp Eq.symm id⟩)
      generalize l[j] = p at *
      obtain ⟨k', bb', n', s', t', i', hp, hcs⟩ : ∃ k bb n s t i, valP p (.slice a0 0 c0') = val7 k bb n s t i (.slice a0 0 c0') ∧ cellsP p (.slice a0 0 c0') = [.int .i64 k, .bool bb, .int .i64 n, .string s, .string t, .string i, .slice a0 0 c0'] := by
        cases p <;> exact ⟨_, _, _, _, _, _, rfl, rfl⟩
      rw [hp] at SM
      rw [hcs] at hc
      unfold val7 at SM
      have up : ∀ {a : Addr} {v : Value}, a.block < w2.heap.size → w2.cell? a = some v → ∀ d os, (grow (redrawn wr d) os).cell? a = some v := fun h1 h2 d os => cell_regrown ((hbw.cell h1).trans h2) d os
      have E6 := up (a := ⟨w.heap.size, 6, none⟩) (by show w.heap.size < _; omega) c6
      have D0 := up (a := ⟨w.heap.size + 1, 0, none⟩) (by show w.heap.size + 1 < _; omega) d0
      have D1 := up (a := ⟨w.heap.size + 1, 1, none⟩) (by show w.heap.size + 1 < _; omega) d1
      have D2 := up (a := ⟨w.heap.size + 1, 2, none⟩) (by show w.heap.size + 1 < _; omega) d2
      have D3 := up (a := ⟨w.heap.size + 1, 3, none⟩) (by show w.heap.size + 1 < _; omega) d3
      have D4 := up (a := ⟨w.heap.size + 1, 4, none⟩) (by show w.heap.size + 1 < _; omega) d4
      have D5 := up (a := ⟨w.heap.size + 1, 5, none⟩) (by show w.heap.size + 1 < _; omega) d5
      have D6 := up (a := ⟨w.heap.size + 1, 6, none⟩) (by show w.heap.size + 1 < _; omega) d6
      have F0 := up (a := ⟨b, off + j * 7 + 0, none⟩) hb (hc 0 _ rfl)
      have F1 := up (a := ⟨b, off + j * 7 + 1, none⟩) hb (hc 1 _ rfl)
      have F2 := up (a := ⟨b, off + j * 7 + 2, none⟩) hb (hc 2 _ rfl)
      have F3 := up (a := ⟨b, off + j * 7 + 3, none⟩) hb (hc 3 _ rfl)
      have F4 := up (a := ⟨b, off + j * 7 + 4, none⟩) hb (hc 4 _ rfl)
      have F5 := up (a := ⟨b, off + j * 7 + 5, none⟩) hb (hc 5 _ rfl)
      have F6 := up (a := ⟨b, off + j * 7 + 6, none⟩) hb (hc 6 _ rfl)
      rw [Nat.add_zero] at F0
      have cS := fun d os => Calls.regrown_of (w := wr) (d := d) (os := os) (SM (grow (redrawn wr d) os))
      clear hc hcs hp SM up d0 d1 d2 d3 d4 d5 d6 c0 c6
      go_wp2_with fail
      refine wp_region_quiet_below (by kernel_rfl) (by kernel_rfl) ?_
      repeat (quiet_step (exact cS _ _))
      refine wpQuiet_nil ?_
      intro _ hw'
      obtain ⟨⟨dq, osq⟩, hw''⟩ := hw'
      subst hw''
      have hbq := below_regrown wr dq osq
      have hbw3 : Below w2.heap.size w2 (grow (redrawn wr dq) osq) := hbw.trans (hbq.mono hbw.size)
      by_cases hpq : p = q
      · have hd : decide (p = q) = true := decide_eq_true hpq
        rw [hd]
        go_wp2
        go_ret
        exact ⟨ret_bool (decide_eq_true ((unhide Hacc).2 ((unhide HS).2 (.inl hpq)))).symm, b02.trans (hbw3.mono b02.size)⟩
      · have hd : decide (p = q) = false := decide_eq_false hpq
        rw [hd]
        go_wp2
        go_roundw
        case rel =>
          refine ⟨j + 1, by go_num, by omega, hbw3, ?_⟩
          rw [unhide Hacc, unhide HS]
          exact ⟨fun h => h.resolve_left hpq, .inr⟩
        case measure =>
          simp only [intOf]
          omega
    · have i1 : ¬ (j : Int) < (l.length : Int) := by omega
      go_wp2
      go_ret
      refine ⟨ret_bool (decide_eq_false ?_).symm, b02.trans (hbw.mono b02.size)⟩
      rw [unhide Hacc, List.drop_eq_nil_of_le (by omega)]
      simp
end Go.Proofs.YtbbongdnnmanlaaGreat
