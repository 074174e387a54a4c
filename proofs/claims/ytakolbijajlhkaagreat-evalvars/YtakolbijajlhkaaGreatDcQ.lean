/-
  chancellaw13.Request of the schema that has nothing.
-/
import Derived.Test.YtakolbijajlhkaaGreatEvSV
import Derived.Test.YtakolbijajlhkaaGreatRwAL
import Derived.Test.YtakolbijajlhkaaGreatVeOP
namespace Go.Proofs.YtakolbijajlhkaaGreat
open Go.RowKit Go.Sort

/-- A region that makes memory, and whose last operation (m) stores: then F holds. -/
def DRm (m : Nat) (w6 : World) (F : World → Prop) (L : Nat → Bool) (_ : Act) (w' : World) : Prop := (L m = false ∧ Below w6.heap.size w6 w') ∨ (L m = true ∧ (∀ j, j < m → L j = true) ∧ F w')
theorem DRm.below {m : Nat} {w6 w' : World} {F : World → Prop} {L : Nat → Bool} {a : Act} {i : Nat} (h : DRm m w6 F L a w') (hi : i < m) (hL : L i = false) : Below w6.heap.size w6 w' := by
  rcases h with h | ⟨_, h, _⟩
  · exact h.2
  · rw [h i hi] at hL
    cases hL
theorem DRm.low {m : Nat} {w6 w' : World} {F : World → Prop} {L : Nat → Bool} {a : Act} (h : DRm m w6 F L a w') (hL : L m = false) : Below w6.heap.size w6 w' := by
  rcases h with h | ⟨h, _⟩
  · exact h.2
  · rw [hL] at h
    cases h
theorem DRm.fin {m : Nat} {w6 w' : World} {F : World → Prop} {L : Nat → Bool} {a : Act} (h : DRm m w6 F L a w') (hL : L m = true) : F w' := by
  rcases h with ⟨h, _⟩ | ⟨_, _, h⟩
  · rw [hL] at h
    cases h
  · exact h
theorem DRm.step {m : Nat} {w6 w' w'' : World} {F : World → Prop} {L : Nat → Bool} {a a' : Act} {i : Nat} (h : DRm m w6 F L a w') (hi : i < m) (hL : L i = false) (hb : Below w'.heap.size w' w'') : DRm m w6 F (fun j => decide (j = i) || L j) a' w'' := by
  rcases h with ⟨h1, h2⟩ | ⟨_, h, _⟩
  · refine .inl ⟨?_, h2.trans (hb.mono h2.size)⟩
    have : ¬ m = i := by omega
    simp [this, h1]
  · rw [h i hi] at hL
    cases hL
def rqSp (b off N sc : Nat) (x0 x1 x2 : Int) : Nat → Value → World → Prop
  | 0, v, _ => v = .slice (some ⟨b, off, none⟩) N sc
  | 1, v, _ => v = .pointer (some ⟨b, off, none⟩)
  | 2, v, _ => v = .int .i64 x0
  | 3, v, _ => v = .agg #[.string (ba (tyI5 x0)), .string (ba (idt5 []))]
  | 4, v, _ => v = .slice (some ⟨b, off, none⟩) N sc
  | 5, v, _ => v = .pointer (some ⟨b, off + 1, none⟩)
  | 6, v, _ => v = .int .i64 x1
  | 7, v, _ => v = .agg #[.string (ba (tyI5 x1)), .string (ba (idt5 []))]
  | 8, v, _ => v = .slice (some ⟨b, off, none⟩) N sc
  | 9, v, _ => v = .pointer (some ⟨b, off + 2, none⟩)
  | 10, v, _ => v = .int .i64 x2
  | 11, v, _ => v = .agg #[.string (ba (tyI5 x2)), .string (ba (idt5 []))]
  | 12, v, _ => v = .agg #[.string (ba (tyI5 x0)), .string (ba (idt5 [])), .string (ba (tyI5 x1)), .string (ba (idt5 [])), .string (ba (tyI5 x2)), .string (ba (idt5 []))]
  | _ + 13, _, _ => True
theorem rqSp_up {b off N sc : Nat} {x0 x1 x2 : Int} {w' w'' : World} (j : Nat) (u : Value) (h : rqSp b off N sc x0 x1 x2 j u w') : rqSp b off N sc x0 x1 x2 j u w'' := by
  match j with
  | 0 | 1 | 2 | 3 | 4 | 5 | 6 | 7 | 8 | 9 | 10 | 11 | 12 => exact h
  | _ + 13 => trivial

set_option maxHeartbeats 16000000 in
set_option maxRecDepth 1000000 in
theorem req13_any (lv : Value) (so : Option Addr) (xs : List Int) (sc : Nat) (w : World) (hz : IntsAt w so xs) :
    Calls Tryz.prog 5 #[.agg #[.slice none 0 0, .slice none 0 0], lv, .slice so xs.length sc] w fun e w' => Below w.heap.size w w' ∧ ∃ p a r : U2, e = .returned (.agg #[.string p.t, .string p.i, .string a.t, .string a.i, .string r.t, .string r.i]) := by
  have UC := fun (n : Int) w' => uid5_any n [] none 0 w' (by decide) (by decide) (fun j hj => absurd hj (Nat.not_lt_zero _))
  simp only [List.length_nil] at UC
  by_cases h4 : xs.length < 4
  · obtain ⟨N, hN⟩ : ∃ N, N = xs.length := ⟨_, rfl⟩
    rw [← hN] at h4 ⊢
    have i4 : (N : Int) < 4 := by omega
    clear hN hz
    obtain ⟨b2, z2, k1, k2, k3⟩ := ev3 w (.cells #[.slice none 0 0, .slice none 0 0] 32) (.cells #[.string ⟨#[]⟩, .string ⟨#[]⟩, .string ⟨#[]⟩, .string ⟨#[]⟩, .string ⟨#[]⟩, .string ⟨#[]⟩] 27) (.cells #[.string ⟨#[]⟩, .string ⟨#[]⟩, .string ⟨#[]⟩, .string ⟨#[]⟩, .string ⟨#[]⟩, .string ⟨#[]⟩] 27)
    clear k1 k3 z2
    go_enter Tryz.func5, Tryz.ntmps5
    go_upto_region 2 with fail
    generalize ((w.alloc _).alloc _).alloc _ = w2 at *
    have U0 := UC 0 w2
    go_wp2_with fail
    refine U0.mono ?_
    rintro e w3 ⟨rfl, b3⟩
    have U1 := UC 3 w3
    go_wp2_with fail
    refine U1.mono ?_
    rintro e w4 ⟨rfl, b4⟩
    have U2' := UC 2 w4
    go_wp2_with fail
    refine U2'.mono ?_
    rintro e w5 ⟨rfl, b5⟩
    have B5 := b2.trans ((b3.trans ((b4.trans (b5.mono b4.size)).mono b3.size)).mono b2.size)
    have r5 := kept_of_below b5 (kept_of_below b4 (kept_of_below b3 k2))
    generalize ba (tyI5 0) = s0 at *
    generalize ba (tyI5 3) = s1 at *
    generalize ba (tyI5 2) = s2 at *
    generalize ba (idt5 []) = s3 at *
    have z0 : w5.cell? ⟨w.heap.size + 1, 0, none⟩ = some (.string ⟨#[]⟩) := by rw [Lib.cell_of_heap r5]; rfl
    have z1 : w5.cell? ⟨w.heap.size + 1, 1, none⟩ = some (.string ⟨#[]⟩) := by rw [Lib.cell_of_heap r5]; rfl
    have z2 : w5.cell? ⟨w.heap.size + 1, 2, none⟩ = some (.string ⟨#[]⟩) := by rw [Lib.cell_of_heap r5]; rfl
    have z3 : w5.cell? ⟨w.heap.size + 1, 3, none⟩ = some (.string ⟨#[]⟩) := by rw [Lib.cell_of_heap r5]; rfl
    have z4 : w5.cell? ⟨w.heap.size + 1, 4, none⟩ = some (.string ⟨#[]⟩) := by rw [Lib.cell_of_heap r5]; rfl
    have z5 : w5.cell? ⟨w.heap.size + 1, 5, none⟩ = some (.string ⟨#[]⟩) := by rw [Lib.cell_of_heap r5]; rfl
    have zf : ∀ o, w5.frozen? ⟨w.heap.size + 1, o, none⟩ = false := fun o => Lib.frozen_of_heap r5 o
    have HB := hide (belowSetCells (b := w.heap.size + 1) [.string s0, .string s3, .string s1, .string s3, .string s2, .string s3] 0 w5 B5 (Nat.le_succ _))
    clear r5 k2 U0 U1 U2' UC B5
    go_wp2
    exact bodyPost_ret (v := .agg #[.string s0, .string s3, .string s1, .string s3, .string s2, .string s3]) (by simp [results, Tryz.results5, go_sem, z0, z1, z2, z3, z4, z5]) rfl ⟨unhide HB, ⟨s0, s3⟩, ⟨s1, s3⟩, ⟨s2, s3⟩, rfl⟩
  · obtain ⟨b, off, rfl, hb, c0⟩ := hz 0 (by omega)
    obtain ⟨b', off', e', _, c1⟩ := hz 1 (by omega)
    cases e'
    obtain ⟨b', off', e', _, c2⟩ := hz 2 (by omega)
    cases e'
    generalize xs[0] = x0 at *
    generalize xs[1] = x1 at *
    generalize xs[2] = x2 at *
    obtain ⟨N, hN⟩ : ∃ N, N = xs.length := ⟨_, rfl⟩
    rw [← hN] at h4 ⊢
    have i4 : ¬ (N : Int) < 4 := by omega
    have n0 : (0 : Nat) < N := by omega
    have n1 : (1 : Nat) < N := by omega
    have n2 : (2 : Nat) < N := by omega
    have m0 : (0 : Int) < (N : Int) := by omega
    have m1 : (1 : Int) < (N : Int) := by omega
    have m2 : (2 : Int) < (N : Int) := by omega
    clear hN hz h4
    obtain ⟨b3, z3, k1, k2, k3⟩ := ev3 w (.cells #[.slice none 0 0, .slice none 0 0] 32) (.cells #[.string ⟨#[]⟩, .string ⟨#[]⟩, .string ⟨#[]⟩, .string ⟨#[]⟩, .string ⟨#[]⟩, .string ⟨#[]⟩] 27) (.cells #[.string ⟨#[]⟩, .string ⟨#[]⟩, .string ⟨#[]⟩, .string ⟨#[]⟩, .string ⟨#[]⟩, .string ⟨#[]⟩] 27)
    have c0 := (b3.cell (p := ⟨b, off + 0, none⟩) hb).trans c0
    have c1 := (b3.cell (p := ⟨b, off + 1, none⟩) hb).trans c1
    have c2 := (b3.cell (p := ⟨b, off + 2, none⟩) hb).trans c2
    rw [Nat.add_zero] at c0
    have hb3 := Nat.lt_of_lt_of_le hb b3.size
    clear z3 hb
    go_enter Tryz.func5, Tryz.ntmps5
    go_upto_region 2 with fail
    generalize ((w.alloc _).alloc _).alloc _ = w3 at *
    go_upto_region 4 with fail
    refine wp_specsH 13 (fun _ => true) (rqSp b off N sc x0 x1 x2) (DRm 13 w3 (fun w9 => Below w.heap.size w w9 ∧ w9.heap[w.heap.size + 2]? = some (.cells #[.string (ba (tyI5 x0)), .string (ba (idt5 [])), .string (ba (tyI5 x1)), .string (ba (idt5 [])), .string (ba (tyI5 x2)), .string (ba (idt5 []))] 27 (0, 0)) ∧ w9.heap[w.heap.size]? = some (.cells #[.slice none 0 0, .slice none 0 0] 32 (0, 0)) ∧ w9.heap[w.heap.size + 1]? = some (.cells #[.string ⟨#[]⟩, .string ⟨#[]⟩, .string ⟨#[]⟩, .string ⟨#[]⟩, .string ⟨#[]⟩, .string ⟨#[]⟩] 27 (0, 0)))) (by kernel_rfl) (by kernel_rfl) (by kernel_rfl) (.inl ⟨rfl, (Below.refl _ w3).drew⟩) ?_ ?_ ?_ ?_ ?_ ?_
    · intro i o ho a' w' hdep
      match i, ho with
      | 0, ho =>
        cases ho
        exact want_none rfl
      | 1, ho =>
        cases ho
        exact want_none rfl
      | 2, ho =>
        cases ho
        exact want_none rfl
      | 3, ho =>
        cases ho
        exact want_none rfl
      | 4, ho =>
        cases ho
        exact want_none rfl
      | 5, ho =>
        cases ho
        exact want_none rfl
      | 6, ho =>
        cases ho
        exact want_none rfl
      | 7, ho =>
        cases ho
        exact want_none rfl
      | 8, ho =>
        cases ho
        exact want_none rfl
      | 9, ho =>
        cases ho
        exact want_none rfl
      | 10, ho =>
        cases ho
        exact want_none rfl
      | 11, ho =>
        cases ho
        exact want_none rfl
      | 12, ho =>
        cases ho
        exact want_none rfl
      | 13, ho =>
        cases ho
        exact want_none rfl
      | i + 14, ho => exact absurd (List.getElem?_eq_some_iff.1 ho).1 (by simp)
    · intro i o hi' ho hwf
      cases hwf
    · intro i hi
      rfl
    · intro i o hi' hwi ho L a' w' hL hw hR hdep hslot hsz K hK
      have hb := hR.below hi' hL
      have y0 : w'.cell? ⟨b, off, none⟩ = some (.int .i64 x0) := (hb.cell (p := ⟨b, off, none⟩) hb3).trans c0
      have y1 : w'.cell? ⟨b, off + 1, none⟩ = some (.int .i64 x1) := (hb.cell (p := ⟨b, off + 1, none⟩) hb3).trans c1
      have y2 : w'.cell? ⟨b, off + 2, none⟩ = some (.int .i64 x2) := (hb.cell (p := ⟨b, off + 2, none⟩) hb3).trans c2
      have hst := fun (w'' : World) (v : Value) (hb2 : Below w'.heap.size w' w'') => hR.step (a' := a'.put o.dst v) hi' hL hb2
      have HST := hide hst
      clear hst
      match i, hi' with
      | 0, _ =>
        cases ho
        have e2 : a'.tmps.getD 2 undef = .slice (some ⟨b, off, none⟩) N sc := hslot 2 (by decide)
        clear UC hsz
        unfold Oper.wp
        go_simp
        exact hK _ _ rfl (unhide HST _ _ (Below.refl _ w')) (fun _ _ h => h)
      | 1, _ =>
        cases ho
        have e0 : a'.tmps.getD 17 undef = .slice (some ⟨b, off, none⟩) N sc := hdep 0 (by decide) (by kernel_rfl)
        have e0' : a'.tmps[17]?.getD undef = .slice (some ⟨b, off, none⟩) N sc := by simpa using e0
        clear UC hsz
        unfold Oper.wp
        go_simp
        exact hK _ _ rfl (unhide HST _ _ (Below.refl _ w')) (fun _ _ h => h)
      | 2, _ =>
        cases ho
        have e1 : a'.tmps.getD 18 undef = .pointer (some ⟨b, off, none⟩) := hdep 1 (by decide) (by kernel_rfl)
        have e1' : a'.tmps[18]?.getD undef = .pointer (some ⟨b, off, none⟩) := by simpa using e1
        clear UC hsz
        unfold Oper.wp
        go_simp
        exact hK _ _ rfl (unhide HST _ _ (Below.refl _ w')) (fun _ _ h => h)
      | 3, _ =>
        cases ho
        have e2 : a'.tmps.getD 19 undef = .int .i64 x0 := hdep 2 (by decide) (by kernel_rfl)
        have e2' : a'.tmps[19]?.getD undef = .int .i64 x0 := by simpa using e2
        have C := UC x0 w'
        clear UC hsz
        unfold Oper.wp
        go_simp
        refine C.mono ?_
        rintro e w7 ⟨rfl, b7⟩
        exact hK _ _ rfl (unhide HST _ _ b7) (fun j u h => rqSp_up j u h)
      | 4, _ =>
        cases ho
        have e2 : a'.tmps.getD 2 undef = .slice (some ⟨b, off, none⟩) N sc := hslot 2 (by decide)
        clear UC hsz
        unfold Oper.wp
        go_simp
        exact hK _ _ rfl (unhide HST _ _ (Below.refl _ w')) (fun _ _ h => h)
      | 5, _ =>
        cases ho
        have e4 : a'.tmps.getD 21 undef = .slice (some ⟨b, off, none⟩) N sc := hdep 4 (by decide) (by kernel_rfl)
        have e4' : a'.tmps[21]?.getD undef = .slice (some ⟨b, off, none⟩) N sc := by simpa using e4
        clear UC hsz
        unfold Oper.wp
        go_simp
        exact hK _ _ rfl (unhide HST _ _ (Below.refl _ w')) (fun _ _ h => h)
      | 6, _ =>
        cases ho
        have e5 : a'.tmps.getD 22 undef = .pointer (some ⟨b, off + 1, none⟩) := hdep 5 (by decide) (by kernel_rfl)
        have e5' : a'.tmps[22]?.getD undef = .pointer (some ⟨b, off + 1, none⟩) := by simpa using e5
        clear UC hsz
        unfold Oper.wp
        go_simp
        exact hK _ _ rfl (unhide HST _ _ (Below.refl _ w')) (fun _ _ h => h)
      | 7, _ =>
        cases ho
        have e6 : a'.tmps.getD 23 undef = .int .i64 x1 := hdep 6 (by decide) (by kernel_rfl)
        have e6' : a'.tmps[23]?.getD undef = .int .i64 x1 := by simpa using e6
        have C := UC x1 w'
        clear UC hsz
        unfold Oper.wp
        go_simp
        refine C.mono ?_
        rintro e w7 ⟨rfl, b7⟩
        exact hK _ _ rfl (unhide HST _ _ b7) (fun j u h => rqSp_up j u h)
      | 8, _ =>
        cases ho
        have e2 : a'.tmps.getD 2 undef = .slice (some ⟨b, off, none⟩) N sc := hslot 2 (by decide)
        clear UC hsz
        unfold Oper.wp
        go_simp
        exact hK _ _ rfl (unhide HST _ _ (Below.refl _ w')) (fun _ _ h => h)
      | 9, _ =>
        cases ho
        have e8 : a'.tmps.getD 25 undef = .slice (some ⟨b, off, none⟩) N sc := hdep 8 (by decide) (by kernel_rfl)
        have e8' : a'.tmps[25]?.getD undef = .slice (some ⟨b, off, none⟩) N sc := by simpa using e8
        clear UC hsz
        unfold Oper.wp
        go_simp
        exact hK _ _ rfl (unhide HST _ _ (Below.refl _ w')) (fun _ _ h => h)
      | 10, _ =>
        cases ho
        have e9 : a'.tmps.getD 26 undef = .pointer (some ⟨b, off + 2, none⟩) := hdep 9 (by decide) (by kernel_rfl)
        have e9' : a'.tmps[26]?.getD undef = .pointer (some ⟨b, off + 2, none⟩) := by simpa using e9
        clear UC hsz
        unfold Oper.wp
        go_simp
        exact hK _ _ rfl (unhide HST _ _ (Below.refl _ w')) (fun _ _ h => h)
      | 11, _ =>
        cases ho
        have e10 : a'.tmps.getD 27 undef = .int .i64 x2 := hdep 10 (by decide) (by kernel_rfl)
        have e10' : a'.tmps[27]?.getD undef = .int .i64 x2 := by simpa using e10
        have C := UC x2 w'
        clear UC hsz
        unfold Oper.wp
        go_simp
        refine C.mono ?_
        rintro e w7 ⟨rfl, b7⟩
        exact hK _ _ rfl (unhide HST _ _ b7) (fun j u h => rqSp_up j u h)
      | 12, _ =>
        cases ho
        have e3 : a'.tmps.getD 20 undef = .agg #[.string (ba (tyI5 x0)), .string (ba (idt5 []))] := hdep 3 (by decide) (by kernel_rfl)
        have e3' : a'.tmps[20]?.getD undef = .agg #[.string (ba (tyI5 x0)), .string (ba (idt5 []))] := by simpa using e3
        have e7 : a'.tmps.getD 24 undef = .agg #[.string (ba (tyI5 x1)), .string (ba (idt5 []))] := hdep 7 (by decide) (by kernel_rfl)
        have e7' : a'.tmps[24]?.getD undef = .agg #[.string (ba (tyI5 x1)), .string (ba (idt5 []))] := by simpa using e7
        have e11 : a'.tmps.getD 28 undef = .agg #[.string (ba (tyI5 x2)), .string (ba (idt5 []))] := hdep 11 (by decide) (by kernel_rfl)
        have e11' : a'.tmps[28]?.getD undef = .agg #[.string (ba (tyI5 x2)), .string (ba (idt5 []))] := by simpa using e11
        clear UC hsz
        unfold Oper.wp
        go_simp
        exact hK _ _ rfl (unhide HST _ _ (Below.refl _ w')) (fun _ _ h => h)
      | i + 13, h => exact absurd h (by omega)
    · intro i o hi' ho L a' w' hL hw hR hdep hslot K hK
      have : i = 13 := by
        have h := (List.getElem?_eq_some_iff.1 ho).1
        simp only [List.length_cons, List.length_nil] at h
        omega
      subst this
      cases ho
      have e6 : a'.tmps.getD 7 undef = .pointer (some ⟨w.heap.size + 2, 0, none⟩) := hslot 7 (by decide)
      have hall : ∀ j, j < 13 → L j = true := fun j hj => by
        match j, hj with
        | 0, _ => exact hw 0 (by kernel_rfl)
        | 1, _ => exact hw 1 (by kernel_rfl)
        | 2, _ => exact hw 2 (by kernel_rfl)
        | 3, _ => exact hw 3 (by kernel_rfl)
        | 4, _ => exact hw 4 (by kernel_rfl)
        | 5, _ => exact hw 5 (by kernel_rfl)
        | 6, _ => exact hw 6 (by kernel_rfl)
        | 7, _ => exact hw 7 (by kernel_rfl)
        | 8, _ => exact hw 8 (by kernel_rfl)
        | 9, _ => exact hw 9 (by kernel_rfl)
        | 10, _ => exact hw 10 (by kernel_rfl)
        | 11, _ => exact hw 11 (by kernel_rfl)
        | 12, _ => exact hw 12 (by kernel_rfl)
        | j + 13, h => exact absurd h (by omega)
      have e12 : a'.tmps.getD 29 undef = .agg #[.string (ba (tyI5 x0)), .string (ba (idt5 [])), .string (ba (tyI5 x1)), .string (ba (idt5 [])), .string (ba (tyI5 x2)), .string (ba (idt5 []))] := hdep 12 (by decide) (by kernel_rfl)
      have hb := hR.low hL
      have hK7 := kept_of_below hb k3
      have hKs := kept_of_below hb k1
      have hKr := kept_of_below hb k2
      have z0 : w'.cell? ⟨w.heap.size + 2, 0, none⟩ = some (.string ⟨#[]⟩) := by rw [Lib.cell_of_heap hK7]; rfl
      have z1 : w'.cell? ⟨w.heap.size + 2, 1, none⟩ = some (.string ⟨#[]⟩) := by rw [Lib.cell_of_heap hK7]; rfl
      have z2 : w'.cell? ⟨w.heap.size + 2, 2, none⟩ = some (.string ⟨#[]⟩) := by rw [Lib.cell_of_heap hK7]; rfl
      have z3 : w'.cell? ⟨w.heap.size + 2, 3, none⟩ = some (.string ⟨#[]⟩) := by rw [Lib.cell_of_heap hK7]; rfl
      have z4 : w'.cell? ⟨w.heap.size + 2, 4, none⟩ = some (.string ⟨#[]⟩) := by rw [Lib.cell_of_heap hK7]; rfl
      have z5 : w'.cell? ⟨w.heap.size + 2, 5, none⟩ = some (.string ⟨#[]⟩) := by rw [Lib.cell_of_heap hK7]; rfl
      have zf : ∀ o, w'.frozen? ⟨w.heap.size + 2, o, none⟩ = false := fun o => Lib.frozen_of_heap hK7 o
      have hnew : (w'.setCells (w.heap.size + 2) 0 [.string (ba (tyI5 x0)), .string (ba (idt5 [])), .string (ba (tyI5 x1)), .string (ba (idt5 [])), .string (ba (tyI5 x2)), .string (ba (idt5 []))]).heap[w.heap.size + 2]? = some (.cells #[.string (ba (tyI5 x0)), .string (ba (idt5 [])), .string (ba (tyI5 x1)), .string (ba (idt5 [])), .string (ba (tyI5 x2)), .string (ba (idt5 []))] 27 (0, 0)) := by
        have h1 := heap_setCell_same w' (w.heap.size + 2) 0 _ _ (.string (ba (tyI5 x0))) hK7
        have h2 := heap_setCell_same _ (w.heap.size + 2) 1 _ _ (.string (ba (idt5 []))) h1
        have h3 := heap_setCell_same _ (w.heap.size + 2) 2 _ _ (.string (ba (tyI5 x1))) h2
        have h4 := heap_setCell_same _ (w.heap.size + 2) 3 _ _ (.string (ba (idt5 []))) h3
        have h5 := heap_setCell_same _ (w.heap.size + 2) 4 _ _ (.string (ba (tyI5 x2))) h4
        exact heap_setCell_same _ (w.heap.size + 2) 5 _ _ (.string (ba (idt5 []))) h5
      have hfin : DRm 13 w3 (fun w9 => Below w.heap.size w w9 ∧ w9.heap[w.heap.size + 2]? = some (.cells #[.string (ba (tyI5 x0)), .string (ba (idt5 [])), .string (ba (tyI5 x1)), .string (ba (idt5 [])), .string (ba (tyI5 x2)), .string (ba (idt5 []))] 27 (0, 0)) ∧ w9.heap[w.heap.size]? = some (.cells #[.slice none 0 0, .slice none 0 0] 32 (0, 0)) ∧ w9.heap[w.heap.size + 1]? = some (.cells #[.string ⟨#[]⟩, .string ⟨#[]⟩, .string ⟨#[]⟩, .string ⟨#[]⟩, .string ⟨#[]⟩, .string ⟨#[]⟩] 27 (0, 0))) (fun j => decide (j = 13) || L j) a' (w'.setCells (w.heap.size + 2) 0 [.string (ba (tyI5 x0)), .string (ba (idt5 [])), .string (ba (tyI5 x1)), .string (ba (idt5 [])), .string (ba (tyI5 x2)), .string (ba (idt5 []))]) :=
        .inr ⟨by simp, fun j hj => by simp [hall j hj], belowSetCells _ _ _ (b3.trans (hb.mono b3.size)) (by omega), hnew, (heap_setCells (by omega) _ _ _).trans hKs, (heap_setCells (by omega) _ _ _).trans hKr⟩
      have HF := hide hfin
      clear hfin hnew hK7 hKs hKr hR hdep hw UC hall hL hslot
      have hK : ∀ v, K (a'.put none v) (w'.setCells (w.heap.size + 2) 0 [.string (ba (tyI5 x0)), .string (ba (idt5 [])), .string (ba (tyI5 x1)), .string (ba (idt5 [])), .string (ba (tyI5 x2)), .string (ba (idt5 []))]) := fun v => hK _ (unhide HF) (fun j u h => rqSp_up j u h) v
      generalize ba (tyI5 x0) = s0 at *
      generalize ba (tyI5 x1) = s1 at *
      generalize ba (tyI5 x2) = s2 at *
      generalize ba (idt5 []) = s3 at *
      unfold Oper.wp
      go_simp
      exact hK undef
    · intro v L w9 hall hR hsp
      obtain ⟨b9, h9, hs9, hr9⟩ := hR.fin (hall 13 (by decide))
      clear hR hall hsp UC
      generalize ba (tyI5 x0) = s0 at *
      generalize ba (tyI5 x1) = s1 at *
      generalize ba (tyI5 x2) = s2 at *
      generalize ba (idt5 []) = s3 at *
      simp only [putAll, dstOf, List.getElem?_cons_zero, List.getElem?_cons_succ, Option.bind_some]
      simp only [Act.put, List.setIfInBounds_toArray, List.set_cons_succ, List.set_cons_zero]
      generalize v 0 = v0
      generalize v 1 = v1
      generalize v 2 = v2
      generalize v 3 = v3
      generalize v 4 = v4
      generalize v 5 = v5
      generalize v 6 = v6
      generalize v 7 = v7
      generalize v 8 = v8
      generalize v 9 = v9
      generalize v 10 = v10
      generalize v 11 = v11
      generalize v 12 = v12
      have s0c : w9.cell? ⟨w.heap.size, 0, none⟩ = some (.slice none 0 0) := by rw [Lib.cell_of_heap hs9]; rfl
      have s1c : w9.cell? ⟨w.heap.size, 1, none⟩ = some (.slice none 0 0) := by rw [Lib.cell_of_heap hs9]; rfl
      go_wp2_with fail
      refine (noEnvs_any w9).mono ?_
      clear s0c s1c
      rintro e w10 ⟨rfl, b10⟩
      have h10 := kept_of_below b10 h9
      have r10 := kept_of_below b10 hr9
      have B10 := b9.trans (b10.mono b9.size)
      have q0 : w10.cell? ⟨w.heap.size + 2, 0, none⟩ = some (.string s0) := by rw [Lib.cell_of_heap h10]; rfl
      have q1 : w10.cell? ⟨w.heap.size + 2, 1, none⟩ = some (.string s3) := by rw [Lib.cell_of_heap h10]; rfl
      have q2 : w10.cell? ⟨w.heap.size + 2, 2, none⟩ = some (.string s1) := by rw [Lib.cell_of_heap h10]; rfl
      have q3 : w10.cell? ⟨w.heap.size + 2, 3, none⟩ = some (.string s3) := by rw [Lib.cell_of_heap h10]; rfl
      have q4 : w10.cell? ⟨w.heap.size + 2, 4, none⟩ = some (.string s2) := by rw [Lib.cell_of_heap h10]; rfl
      have q5 : w10.cell? ⟨w.heap.size + 2, 5, none⟩ = some (.string s3) := by rw [Lib.cell_of_heap h10]; rfl
      have z0 : w10.cell? ⟨w.heap.size + 1, 0, none⟩ = some (.string ⟨#[]⟩) := by rw [Lib.cell_of_heap r10]; rfl
      have z1 : w10.cell? ⟨w.heap.size + 1, 1, none⟩ = some (.string ⟨#[]⟩) := by rw [Lib.cell_of_heap r10]; rfl
      have z2 : w10.cell? ⟨w.heap.size + 1, 2, none⟩ = some (.string ⟨#[]⟩) := by rw [Lib.cell_of_heap r10]; rfl
      have z3 : w10.cell? ⟨w.heap.size + 1, 3, none⟩ = some (.string ⟨#[]⟩) := by rw [Lib.cell_of_heap r10]; rfl
      have z4 : w10.cell? ⟨w.heap.size + 1, 4, none⟩ = some (.string ⟨#[]⟩) := by rw [Lib.cell_of_heap r10]; rfl
      have z5 : w10.cell? ⟨w.heap.size + 1, 5, none⟩ = some (.string ⟨#[]⟩) := by rw [Lib.cell_of_heap r10]; rfl
      have zf : ∀ o, w10.frozen? ⟨w.heap.size + 1, o, none⟩ = false := fun o => Lib.frozen_of_heap r10 o
      have HB := hide (belowSetCells (b := w.heap.size + 1) [.string s0, .string s3, .string s1, .string s3, .string s2, .string s3] 0 w10 B10 (Nat.le_succ _))
      clear h9 hs9 hr9 h10 r10 b9 b10 B10
      go_wp2
      exact bodyPost_ret (v := .agg #[.string s0, .string s3, .string s1, .string s3, .string s2, .string s3]) (by simp [results, Tryz.results5, go_sem, z0, z1, z2, z3, z4, z5]) rfl ⟨unhide HB, ⟨s0, s3⟩, ⟨s1, s3⟩, ⟨s2, s3⟩, rfl⟩
end Go.Proofs.YtakolbijajlhkaaGreat
