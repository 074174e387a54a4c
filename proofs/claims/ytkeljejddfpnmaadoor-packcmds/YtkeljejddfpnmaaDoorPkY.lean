/-
  chancelref7's reader: end, num: what they return.
-/
import Derived.Test.YtkeljejddfpnmaaDoorPkX
namespace Go.Proofs.YtkeljejddfpnmaaDoor
open Go.RowKit Go.Sort

set_option maxHeartbeats 4000000 in
set_option maxRecDepth 1000000 in
theorem end_any (l : List UInt8) (e : Bool) (w : World) (qb : Nat) (h : QK w qb l e) :
    Calls Tryd.prog 31 #[.pointer (some ⟨qb, 0, none⟩)] w fun x w' => x = .returned (.int .i64 (endE l e)) ∧ Below w.heap.size w w' := by
  obtain ⟨ao, cap, B, P, h, rfl⟩ := h
  obtain ⟨c0, c1, c2, cf⟩ := q_cells h.obj
  have hle := h.le
  have hln := h.len
  have HH := hide h
  unfold endE
  cases e with
  | true =>
    have c2' : w.cell? ⟨qb, 2, none⟩ = some (.int .i64 8) := c2
    clear h c2
    go_enter Tryd.func31, Tryd.ntmps31
    go_wp2_with fail
    refine wp_region_quiet_lit (by kernel_rfl) (by kernel_rfl) ?_
    repeat (go_big_quiet_step (fail))
    refine wpQuiet_nil ?_
    intro _ hw'
    obtain ⟨nq, hw''⟩ := hw'
    subst hw''
    have b1 : Below w.heap.size w (w.drewN nq) := below_drewN (Below.refl _ w) nq
    generalize w.drewN nq = w1 at *
    obtain ⟨d0, d1, d2, df⟩ := q_cells ((unhide HH).below b1).obj
    have d2' : w1.cell? ⟨qb, 2, none⟩ = some (.int .i64 8) := d2
    clear c0 c1 c2' cf d2
    go_wp2
    go_ret
    exact ⟨rfl, b1⟩
  | false =>
    have c2' : w.cell? ⟨qb, 2, none⟩ = some (.int .i64 0) := c2
    clear c2
    simp only [Bool.false_eq_true, if_false]
    obtain ⟨n, hn⟩ : ∃ n, n = B.length := ⟨_, rfl⟩
    rw [← hn] at c0
    by_cases hlt : P < B.length
    · rw [if_pos (by rw [List.length_drop]; omega)]
      have i1 : (P : Int) < (n : Int) := by omega
      clear h hn
      go_enter Tryd.func31, Tryd.ntmps31
      go_wp2_with fail
      refine wp_region_quiet_lit (by kernel_rfl) (by kernel_rfl) ?_
      repeat (go_big_quiet_step (fail))
      refine wpQuiet_nil ?_
      intro _ hw'
      obtain ⟨nq, hw''⟩ := hw'
      subst hw''
      have b1 : Below w.heap.size w (w.drewN nq) := below_drewN (Below.refl _ w) nq
      generalize w.drewN nq = w1 at *
      go_wp2
      go_ret
      exact ⟨rfl, b1⟩
    · rw [if_neg (by rw [List.length_drop]; omega)]
      have i1 : ¬ (P : Int) < (n : Int) := by omega
      clear h hn
      go_enter Tryd.func31, Tryd.ntmps31
      go_wp2_with fail
      refine wp_region_quiet_lit (by kernel_rfl) (by kernel_rfl) ?_
      repeat (go_big_quiet_step (fail))
      refine wpQuiet_nil ?_
      intro _ hw'
      obtain ⟨nq, hw''⟩ := hw'
      subst hw''
      have b1 : Below w.heap.size w (w.drewN nq) := below_drewN (Below.refl _ w) nq
      generalize w.drewN nq = w1 at *
      obtain ⟨d0, d1, d2, df⟩ := q_cells ((unhide HH).below b1).obj
      have d2' : w1.cell? ⟨qb, 2, none⟩ = some (.int .i64 0) := d2
      clear c0 c1 c2' cf d2
      go_wp2
      go_ret
      exact ⟨rfl, b1⟩

/-- One byte more of a number. -/
theorem u64_step (v b : Nat) (hv : v < 72057594037927936) (hb : b < 256) : bits .or .u64 (IntKind.u64.wrap ((v : Int) * 256)) (IntKind.u64.wrap (b : Int)) = ((v * 256 + b : Nat) : Int) := by
  have w1 : IntKind.u64.wrap ((v : Int) * 256) = ((2 ^ 8 * v : Nat) : Int) := by rw [IntKind.wrap_u64]; omega
  have w2 : IntKind.u64.wrap (b : Int) = ((b : Nat) : Int) := by rw [IntKind.wrap_u64]; omega
  rw [w1, w2]
  have o := u64_or_nat (2 ^ 8 * v) b (by omega) (by omega)
  rw [← Nat.two_pow_add_eq_or_of_lt (show b < 2 ^ 8 by omega)] at o
  rw [o]
  congr 1
  omega
def NumOk (k : Nat) (l : List UInt8) (e : Bool) (x : Int) (l' : List UInt8) (e' : Bool) : Prop :=
  (e = false → k ≤ l.length → x = ((beV (l.take k) : Nat) : Int) ∧ l' = l.drop k ∧ e' = false) ∧ (e = true ∨ l.length < k → e' = true)
theorem NumOk.step {k : Nat} (hk : k < 8) {l : List UInt8} {e : Bool} {x : Int} {l' : List UInt8} {e' : Bool} (h : NumOk k l e x l' e') (z : Int) (hz : z = bits .or .u64 (IntKind.u64.wrap (x * 256)) (IntKind.u64.wrap (u8v l' e'))) : NumOk (k + 1) l e z (u8l l' e') (u8e l' e') := by
  obtain ⟨h1, h2⟩ := h
  constructor
  · intro he hl
    obtain ⟨rfl, rfl, rfl⟩ := h1 he (by omega)
    have hlt : k < l.length := by omega
    rw [List.drop_eq_getElem_cons hlt] at hz ⊢
    refine ⟨?_, rfl, rfl⟩
    rw [hz, beV_take l k hlt]
    refine u64_step _ _ ?_ l[k].toNat_lt
    have := beV_lt4 (l.take k) k (by rw [List.length_take]; omega)
    have h7 : 256 ^ k ≤ 256 ^ 7 := Nat.pow_le_pow_right (by decide) (by omega)
    have h8 : (256 : Nat) ^ 7 = 72057594037927936 := by decide
    omega
  · intro hh
    have ht : ∀ m : List UInt8, u8e m true = true := fun m => by cases m <;> rfl
    by_cases hc : e = true ∨ l.length < k
    · rw [h2 hc]
      exact ht _
    · have he : e = false := by
        cases e with
        | true => exact absurd (.inl rfl) hc
        | false => rfl
      have hl : l.length = k := by
        rcases hh with hh | hh
        · exact absurd (.inl hh) hc
        · have : ¬ l.length < k := fun h => hc (.inr h)
          omega
      obtain ⟨_, rfl, rfl⟩ := h1 he (by omega)
      rw [List.drop_eq_nil_of_le (by omega)]
      rfl

def NumPost (l : List UInt8) (e : Bool) (w : World) (qb : Nat) (r : Ending) (w' : World) : Prop :=
  ∃ v l' e', r = .returned (.int .i64 v) ∧ Keep1 qb w w' ∧ QK w' qb l' e' ∧ (e = false → 8 ≤ l.length → v = numV (l.take 8) ∧ l' = l.drop 8 ∧ e' = false) ∧ (e = true ∨ l.length < 8 → e' = true)

set_option maxHeartbeats 4000000 in
set_option maxRecDepth 1000000 in
theorem qnum_any (l : List UInt8) (e : Bool) (w : World) (qb : Nat) (h : QK w qb l e) :
    Calls Tryd.prog 29 #[.pointer (some ⟨qb, 0, none⟩)] w fun r w' => NumPost l e w qb r w' := by
  go_enter Tryd.func29, Tryd.ntmps29
  go_wp2_with fail
  go_loopw [3, 4] (fun xv iv wr => ∃ (k : Nat) (x : Int) (l' : List UInt8) (e' : Bool), k ≤ 8 ∧ xv = .int .u64 x ∧ iv = .int .i64 k ∧ Keep1 qb w wr ∧ QK wr qb l' e' ∧ NumOk k l e x l' e') (fun _ iv _ => 8 - (intOf iv).toNat)
  case atStart => exact ⟨0, 0, l, e, Nat.zero_le _, rfl, rfl, Keep2.refl _ _ _, h, fun he _ => ⟨rfl, rfl, he⟩, fun hh => hh.elim id fun h => absurd h (Nat.not_lt_zero _)⟩
  case round =>
    obtain ⟨k, x, l', e', hk, rfl, rfl, kr, hq, hn⟩ := hrel
    by_cases h8 : k < 8
    · have i1 : (k : Int) < 8 := by omega
      have U := u8_any l' e' wr qb hq
      obtain ⟨y, hy⟩ : ∃ y : Int, IntKind.u64.wrap (x * 256) = y := ⟨_, rfl⟩
      obtain ⟨c, hc⟩ : ∃ c : Int, IntKind.u64.wrap (u8v l' e') = c := ⟨_, rfl⟩
      obtain ⟨z, hz⟩ : ∃ z : Int, bits .or .u64 y c = z := ⟨_, rfl⟩
      have HN := hide (hn.step h8 z (by rw [hy, hc, hz]))
      clear hn
      generalize u8v l' e' = uv at *
      generalize u8l l' e' = ul at *
      generalize u8e l' e' = ue at *
      go_wp2_with fail
      refine Calls.mono U ?_
      rintro r w1 ⟨rfl, k1, q1⟩
      go_wp2
      go_roundw
      case rel => exact ⟨k + 1, z, ul, ue, by omega, rfl, rfl, kr.trans k1, q1, unhide HN⟩
      case measure => simp only [intOf]; omega
    · have i1 : ¬ (k : Int) < 8 := by omega
      have hk8 : k = 8 := by omega
      subst hk8
      obtain ⟨v, hv⟩ : ∃ v : Int, IntKind.i64.wrap x = v := ⟨_, rfl⟩
      have HN := hide hn
      have HV := hide hv
      clear hn
      go_wp2
      go_ret
      refine ⟨v, l', e', rfl, kr, hq, fun he hl => ?_, (unhide HN).2⟩
      obtain ⟨h1, h2, h3⟩ := (unhide HN).1 he hl
      exact ⟨by rw [← unhide HV, h1]; rfl, h2, h3⟩
end Go.Proofs.YtkeljejddfpnmaaDoor
