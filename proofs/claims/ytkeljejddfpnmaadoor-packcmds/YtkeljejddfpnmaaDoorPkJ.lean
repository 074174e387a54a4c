/-
  chancelref7's Frame and Unframe: what they return.
-/
import Derived.Test.YtkeljejddfpnmaaDoorPkI
namespace Go.Proofs.YtkeljejddfpnmaaDoor
open Go.RowKit Go.Sort

set_option maxHeartbeats 4000000 in
set_option maxRecDepth 1000000 in
theorem rframe_any (l : List UInt8) (ao : Option Addr) (cap : Nat) (w : World) (hl : l.length ≤ 65000) (h : BRow w ao l) (hs : Shape ao cap) :
    Calls Tryd.prog 13 #[.slice ao l.length cap] w fun e w' => ∃ v, e = .returned (.tuple #[v, .int .i64 0]) ∧ Below w.heap.size w w' ∧ Own w' w.heap.size v (beN 4 (crcL l : Nat) ++ l) := by
  obtain ⟨L, hL⟩ : ∃ L : Nat, L = l.length := ⟨_, rfl⟩
  have i1 : ¬ (65000 : Int) < (L : Int) := by omega
  have C := rcrc_any l ao cap w (by omega) h
  rw [← hL] at C ⊢
  obtain ⟨X, hX⟩ : ∃ X : Int, X = ((crcL l : Nat) : Int) := ⟨_, rfl⟩
  rw [← hX] at C ⊢
  obtain ⟨c3, h3⟩ : ∃ c : Int, IntKind.u8.wrap (X / 16777216) = c := ⟨_, rfl⟩
  obtain ⟨c2, h2⟩ : ∃ c : Int, IntKind.u8.wrap (X / 65536) = c := ⟨_, rfl⟩
  obtain ⟨c1, h1⟩ : ∃ c : Int, IntKind.u8.wrap (X / 256) = c := ⟨_, rfl⟩
  obtain ⟨c0, h0⟩ : ∃ c : Int, IntKind.u8.wrap X = c := ⟨_, rfl⟩
  have e4 : u8s (beN 4 X) = [.int .u8 c3, .int .u8 c2, .int .u8 c1, .int .u8 c0] := by
    simp only [beN, u8s, List.map_cons, List.map_nil, byteAt_val]
    rw [show X / 2 ^ (8 * 3) = X / 16777216 by rfl, show X / 2 ^ (8 * 2) = X / 65536 by rfl, show X / 2 ^ (8 * 1) = X / 256 by rfl, show X / 2 ^ (8 * 0) = X by omega, h3, h2, h1, h0]
  have hown := own_new w (beN 4 X) (by rw [beN_len]; decide)
  rw [e4, beN_len] at hown
  have b1 := new1 w (.cells #[.int .u8 c3, .int .u8 c2, .int .u8 c1, .int .u8 c0] 5)
  have h1 := h.below b1
  have hlen : (beN 4 X).length + l.length ≤ 140737488355328 := by rw [beN_len]; omega
  have HO := hide hown
  have HH := hide h1
  have HL := hide hL
  clear e4 hX hL h hown h1
  go_enter Tryd.func13, Tryd.ntmps13
  go_wp2_with fail
  refine C.mono ?_
  rintro e w1 ⟨rfl, rfl⟩
  go_wp2_with (at_builtin; refine wpList_app rfl _ _ rfl rfl rfl (A := beN 4 X) (C := l) (unhide HO) (unhide HL) hs (unhide HH) hlen b1.size ?_)
  intro v' w' hown' hg
  have b2 := b1.grown hg b1.size (fun k hk => ((unhide HO).lt k hk).1)
  clear hg
  go_wp2
  go_ret2
  exact ⟨v', rfl, b2, hown'⟩

theorem beV_four (a b c d : UInt8) : beV [a, b, c, d] = ((a.toNat * 256 + b.toNat) * 256 + c.toNat) * 256 + d.toNat := by simp [beV]
theorem four_nums (a b c d : UInt8) : ∃ y0 y1 y2 z1 z2 : Int, IntKind.u32.wrap ((a.toNat : Int) * 16777216) = y0 ∧ IntKind.u32.wrap ((b.toNat : Int) * 65536) = y1 ∧ IntKind.u32.wrap ((c.toNat : Int) * 256) = y2 ∧ bits .or .u32 y0 y1 = z1 ∧ bits .or .u32 z1 y2 = z2 ∧ bits .or .u32 z2 (d.toNat : Int) = ((beV [a, b, c, d] : Nat) : Int) := by
  have ha := a.toNat_lt
  have hb := b.toNat_lt
  have hc := c.toNat_lt
  have hd := d.toNat_lt
  have w0 : IntKind.u32.wrap ((a.toNat : Int) * 16777216) = ((2 ^ 24 * a.toNat : Nat) : Int) := by rw [IntKind.wrap_u32']; omega
  have w1 : IntKind.u32.wrap ((b.toNat : Int) * 65536) = ((b.toNat * 65536 : Nat) : Int) := by rw [IntKind.wrap_u32']; omega
  have w2 : IntKind.u32.wrap ((c.toNat : Int) * 256) = ((c.toNat * 256 : Nat) : Int) := by rw [IntKind.wrap_u32']; omega
  have o1 := u32_or_nat (2 ^ 24 * a.toNat) (b.toNat * 65536) (by omega) (by omega)
  rw [← Nat.two_pow_add_eq_or_of_lt (show b.toNat * 65536 < 2 ^ 24 by omega) a.toNat] at o1
  have o2 := u32_or_nat (2 ^ 16 * (a.toNat * 256 + b.toNat)) (c.toNat * 256) (by omega) (by omega)
  rw [← Nat.two_pow_add_eq_or_of_lt (show c.toNat * 256 < 2 ^ 16 by omega)] at o2
  have o3 := u32_or_nat (2 ^ 8 * ((a.toNat * 256 + b.toNat) * 256 + c.toNat)) d.toNat (by omega) (by omega)
  rw [← Nat.two_pow_add_eq_or_of_lt (show d.toNat < 2 ^ 8 by omega)] at o3
  refine ⟨_, _, _, _, ((2 ^ 16 * (a.toNat * 256 + b.toNat) + c.toNat * 256 : Nat) : Int), w0, w1, w2, o1, ?_, ?_⟩
  · rw [show 2 ^ 24 * a.toNat + b.toNat * 65536 = 2 ^ 16 * (a.toNat * 256 + b.toNat) by omega]
    exact o2
  · rw [show 2 ^ 16 * (a.toNat * 256 + b.toNat) + c.toNat * 256 = 2 ^ 8 * ((a.toNat * 256 + b.toNat) * 256 + c.toNat) by omega, o3, beV_four]
    omega

set_option maxHeartbeats 4000000 in
set_option maxRecDepth 1000000 in
theorem runframe_any (l : List UInt8) (ao : Option Addr) (cap : Nat) (w : World) (hl : l.length ≤ 65000) (h : BRow w ao l) (hc : l.length ≤ cap) (hs : Shape ao cap) :
    Calls Tryd.prog 17 #[.slice ao l.length cap] w fun e w' => ∃ ao' cap', e = .returned (.tuple #[.slice ao' (unf l).1.length cap', .int .i64 (unf l).2]) ∧ Below w.heap.size w w' ∧ BRow w' ao' (unf l).1 ∧ Shape ao' cap' := by
  by_cases h4 : l.length < 4
  · have e3 : unf l = ([], 8) := by unfold unf; rw [if_pos h4]
    rw [e3]
    have i1 : (l.length : Int) < 4 := by omega
    clear e3
    go_enter Tryd.func17, Tryd.ntmps17
    go_wp2
    go_ret2
    exact ⟨none, 0, rfl, Below.refl _ w, .inl rfl, .inl ⟨rfl, rfl⟩⟩
  · have e3 : unf l = if crcL (l.drop 4) = beV (l.take 4) then (l.drop 4, 0) else ([], 31) := by unfold unf; rw [if_neg h4]
    obtain ⟨a, b, c, d, m, rfl⟩ : ∃ a b c d m, l = a :: b :: c :: d :: m := by
      rcases l with _ | ⟨a, _ | ⟨b, _ | ⟨c, _ | ⟨d, m⟩⟩⟩⟩ <;> simp at h4
      exact ⟨a, b, c, d, m, rfl⟩
    simp only [List.drop_succ_cons, List.drop_zero, List.take_succ_cons, List.take_zero] at e3
    rw [e3]
    rcases h with h | ⟨g, off, rfl, hg, h⟩
    · cases h
    have x0 := h 0 (by simp)
    have x1 := h 1 (by simp)
    have x2 := h 2 (by simp)
    have x3 := h 3 (by simp)
    simp only [List.getElem_cons_zero, List.getElem_cons_succ, Nat.add_zero] at x0 x1 x2 x3
    obtain ⟨y0, y1, y2, z1, z2, n0, n1, n2, n3, n4, n5⟩ := four_nums a b c d
    have ha := a.toNat_lt
    have hb := b.toNat_lt
    have hcc := c.toNat_lt
    have hd := d.toNat_lt
    obtain ⟨A, hA⟩ : ∃ A : Int, A = (a.toNat : Int) := ⟨_, rfl⟩
    obtain ⟨B, hB⟩ : ∃ B : Int, B = (b.toNat : Int) := ⟨_, rfl⟩
    obtain ⟨C, hC⟩ : ∃ C : Int, C = (c.toNat : Int) := ⟨_, rfl⟩
    obtain ⟨D, hD⟩ : ∃ D : Int, D = (d.toNat : Int) := ⟨_, rfl⟩
    rw [← hA] at x0 n0
    rw [← hB] at x1 n1
    rw [← hC] at x2 n2
    rw [← hD] at x3 n5
    have v0 : IntKind.u32.wrap A = A := by rw [IntKind.wrap_u32']; omega
    have v1 : IntKind.u32.wrap B = B := by rw [IntKind.wrap_u32']; omega
    have v2 : IntKind.u32.wrap C = C := by rw [IntKind.wrap_u32']; omega
    have v3 : IntKind.u32.wrap D = D := by rw [IntKind.wrap_u32']; omega
    have hrowN : BRowN w w.heap.size (some ⟨g, off, none⟩) (a :: b :: c :: d :: m) := .inr ⟨g, off, rfl, hg, by omega, h⟩
    have hrow := hrowN.drop 4 cap hc
    obtain ⟨ao', hao, hsl⟩ := run_cut_l (some ⟨g, off, none⟩) (a :: b :: c :: d :: m).length cap 4 (by simp)
    rw [← hao] at hrow
    have hsh : Shape ao' (cap - 4) := by
      rw [hao]
      split
      · exact .inr ⟨_, rfl⟩
      · exact .inr ⟨_, rfl⟩
    simp only [List.drop_succ_cons, List.drop_zero] at hrow
    have hlm : (a :: b :: c :: d :: m).length = m.length + 4 := by simp
    rw [hlm] at hsl hl hc ⊢
    rw [show m.length + 4 - 4 = m.length by omega] at hsl
    obtain ⟨M, hM⟩ : ∃ M : Nat, M = m.length := ⟨_, rfl⟩
    have RC := fun w' hr' => rcrc_any m ao' (cap - 4) w' (by omega) hr'
    rw [← hM] at RC hsl ⊢
    obtain ⟨Y, hY⟩ : ∃ Y : Nat, Y = crcL m := ⟨_, rfl⟩
    obtain ⟨V, hV⟩ : ∃ V : Nat, V = beV [a, b, c, d] := ⟨_, rfl⟩
    rw [← hY, ← hV]
    rw [← hY] at RC
    rw [← hV] at n5
    have i1 : ¬ ((M + 4 : Nat) : Int) < 4 := by omega
    have hML : (m.length : Nat) = M := hM.symm
    have HHM := hide hM
    have HR := hide hrow
    clear hA hB hC hD hao e3 h4 h hrowN hY hV ha hb hcc hd hlm hM hrow hML
    have hsl' : ∀ W, (Instr.slice 24 (.slice (some ⟨g, off, none⟩) (M + 4) cap) (some (.int .i64 4)) none none).run Tryd.prog W = .ok (.slice ao' M (cap - 4)) W := hsl
    clear hsl
    by_cases hq : Y = V
    · rw [if_pos hq]
      subst hq
      go_enter Tryd.func17, Tryd.ntmps17
      go_wp2_with fail
      go_quiet (fail)
      have b1 := below_drewN (Below.refl w.heap.size w) nq
      generalize w.drewN nq = w1 at *
      have hr1 := (unhide HR).row.below b1
      have b2 := b1.trans ((new1 w1 (.cells #[] 5)).mono b1.size)
      have hr2 := (unhide HR).row.below b2
      have hown := own_new w1 [] (by decide)
      have RC := RC w1 hr1
      have HO := hide hown
      have HR2 := hide hr2
      have hlen : ([] : List UInt8).length + m.length ≤ 140737488355328 := by simp; omega
      clear hr1 hown hr2
      go_wp2_with fail
      refine RC.mono ?_
      rintro e w2 ⟨rfl, rfl⟩
      go_wp2_with (at_builtin; refine wpList_app rfl _ _ rfl rfl rfl (A := []) (C := m) (unhide HO) (unhide HHM) hsh (unhide HR2) hlen (new1 _ _).size ?_)
      intro v' w3 hown' hg
      have b3 := b2.grown hg b2.size (fun k hk => by have := ((unhide HO).lt k hk).1; have := b1.size; omega)
      clear hg
      obtain ⟨ao3, cap3, rfl, h3, h4, h5, _⟩ := hown'.open
      go_wp2
      go_ret2
      exact ⟨ao3, cap3, rfl, b3, h5, h4⟩
    · rw [if_neg hq]
      have q1 : ((Y : Int) == (V : Int)) = false := beq_false_of_ne (by omega)
      clear hq
      go_enter Tryd.func17, Tryd.ntmps17
      go_wp2_with fail
      go_quiet (fail)
      have b1 := below_drewN (Below.refl w.heap.size w) nq
      generalize w.drewN nq = w1 at *
      have RC := RC w1 ((unhide HR).row.below b1)
      go_wp2_with fail
      refine RC.mono ?_
      rintro e w2 ⟨rfl, rfl⟩
      go_wp2
      go_ret2
      exact ⟨none, 0, rfl, b1, .inl rfl, .inl ⟨rfl, rfl⟩⟩
end Go.Proofs.YtkeljejddfpnmaaDoor
