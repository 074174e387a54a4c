/-
  ents.checkRow of uids, attributes, entities: what it returns.
-/
import Derived.Test.YtnbbimcooilmdaaGreatEnB
import Derived.Deep.QuietTactic
import Derived.BigQuiet
namespace Go.Proofs.YtnbbimcooilmdaaGreat
open Go.RowKit Go.Sort

set_option maxHeartbeats 4000000 in
set_option maxRecDepth 1000000 in
theorem rowUid_any (l : List U2) (ao : Option Addr) (cap most : Nat) (chk : U2 → Int) (less : U2 → U2 → Bool) (w : World) (hl : l.length ≤ 1048576) (hr : RowG w ao 2 (l.map U2.cells))
    (CK : ∀ x ∈ l, ∀ w', Below w.heap.size w w' → Calls Tryz.prog 39 #[x.val] w' fun e w'' => e = .returned (.int .i64 (chk x)) ∧ Below w'.heap.size w' w'')
    (LS : ∀ a b w', Calls Tryz.prog 41 #[a.val, b.val] w' fun e w'' => e = .returned (.bool (less a b)) ∧ Below w'.heap.size w' w'') :
    Calls Tryz.prog 40 #[.slice ao l.length cap, .int .i64 most, .func (.func 39) #[] #[], .func (.func 41) #[] #[]] w fun e w' => e = .returned (.int .i64 (rowE chk less most l)) ∧ Below w.heap.size w w' := by
  by_cases h8 : most < l.length
  · have e : rowE chk less most l = 4 := if_pos h8
    rw [e]
    have i8 : (most : Int) < (l.length : Int) := by omega
    clear e CK LS
    go_enter Tryz.func40, Tryz.ntmps40
    go_wp2
    go_ret
    exact ⟨rfl, Below.refl _ _⟩
  have i8 : ¬ (most : Int) < (l.length : Int) := by omega
  have HE := hide (show rowE chk less most l = rowGo chk less none l from if_neg h8)
  have HCK := hide CK
  have HLS := hide LS
  clear CK LS
  go_enter Tryz.func40, Tryz.ntmps40
  go_wp2
  go_loopw [18] (fun iv wr => ∃ i : Nat, iv = .int .i64 i ∧ RowInvE chk less l i ∧ Below w.heap.size w wr) (fun iv _ => l.length - (intOf iv).toNat)
  case atStart => exact ⟨0, by go_num, row_start _ _ l, Below.refl _ _⟩
  case round =>
    obtain ⟨j, rfl, inv, hbw⟩ := hrel
    by_cases hlt : j < l.length
    · have i1 : (j : Int) < (l.length : Int) := by omega
      have HR := hide (row_round inv hlt)
      obtain ⟨b, off, rfl, hb, hcell⟩ := rowG_at hr hbw hlt
      have A : AtE2 wr b (off + j * 2) l[j] := AtE2.of hcell
      have CJ := unhide HCK l[j] (List.getElem_mem _)
      have AP := fun (h : j - 1 < l.length) => rowG_at hr hbw h
      have LJ := fun (h : j - 1 < l.length) => unhide HLS l[j - 1] l[j]
      obtain ⟨r, er⟩ : ∃ r, r = l[j] := ⟨_, rfl⟩
      rw [← er] at A CJ HR LJ
      clear er inv hcell
      have HLJ := hide LJ
      have HAP := hide AP
      clear LJ AP
      unfold U2.val at CJ
      have A3 : AtE2 (wr.alloc (.cells #[.string r.t, .string r.i] 25)) wr.heap.size 0 r := ⟨by simp, by simp⟩
      have b3 : Below w.heap.size w (wr.alloc (.cells #[.string r.t, .string r.i] 25)) := hbw.alloc hbw.size _
      have bw3 := below1 wr (.cells #[.string r.t, .string r.i] 25)
      have z3 := size1 wr (.cells #[.string r.t, .string r.i] 25)
      have CF := CJ _ b3
      clear CJ
      obtain ⟨a0, a1⟩ := A
      go_wp2_with fail
      clear a0 a1
      generalize wr.alloc _ = w3 at *
      by_cases hc : chk r = 0
      · rw [hc] at CF
        have Hc := hide hc
        clear hc
        refine CF.mono ?_
        rintro e w5 ⟨rfl, b45⟩
        have b5 := b3.trans (b45.mono b3.size)
        have A5 : AtE2 w5 wr.heap.size 0 r := A3.below b45 (by omega)
        have bw5 := bw3.trans (b45.mono bw3.size)
        clear CF A3
        by_cases hj0 : j = 0
        · subst hj0
          clear A5
          go_wp2_with fail
          go_quiet (fail)
          have b6 := b5.trans ((below_drewN w5 nq).mono b5.size)
          go_wp2
          go_roundw
          case rel => exact ⟨1, by go_num, (unhide HR).2.1 (unhide Hc) (.inl (by trivial)), b6⟩
          case measure =>
            simp only [intOf]
            omega
        · have hp : 0 < j := by omega
          have hpl : j - 1 < l.length := by omega
          obtain ⟨b', off', e', hb', hcell'⟩ := unhide HAP hpl
          cases e'
          have AQ : AtE2 wr b (off + (j - 1) * 2) l[j - 1] := AtE2.of hcell'
          have LQ := unhide HLJ hpl
          have HX := hide (show ∀ x, x = less l[j - 1] r → (x = true → RowInvE chk less l (j + 1)) ∧ (x = false → rowGo chk less none l = 1) from fun x hx => ⟨fun h => (unhide HR).2.1 (unhide Hc) (.inr ⟨hpl, by rw [← hx]; exact h⟩), fun h => (unhide HR).2.2 (unhide Hc) hp (fun _ => by rw [← hx]; exact h)⟩)
          obtain ⟨p, ep⟩ : ∃ p, p = l[j - 1] := ⟨_, rfl⟩
          rw [← ep] at AQ LQ HX
          clear ep hcell' HAP HLJ
          unfold U2.val at LQ
          generalize hx : less p r = x at *
          have HX' := hide (unhide HX x rfl)
          clear hx HX
          have AQ5 := (AQ.below bw5 (by have := hbw.size; omega)).up
          have AR5 := A5.up
          clear A5 AQ
          obtain ⟨a0, a1⟩ := AR5
          obtain ⟨e0, e1⟩ := AQ5
          simp only [Nat.zero_add] at a1
          have ej : (j : Int) - 1 = ((j - 1 : Nat) : Int) := by omega
          have hg : decide ((0 : Int) < (j : Int)) = true := decide_eq_true (by omega)
          have ew : IntKind.i64.wrap ((j - 1 : Nat) : Int) = ((j - 1 : Nat) : Int) := by rw [IntKind.wrap_i64]; omega
          have k0 : (0 : Int) ≤ ((j - 1 : Nat) : Int) := by omega
          have k1 : ((j - 1 : Nat) : Int) < (l.length : Int) := by omega
          have cS := fun d os => Calls.regrown_of (w := w5) (d := d) (os := os) (LQ (grow (redrawn w5 d) os))
          clear LQ
          go_wp2_with fail
          refine wp_region_quiet_below (by kernel_rfl) (by kernel_rfl) ?_
          repeat (quiet_step (exact cS _ _))
          refine wpQuiet_nil ?_
          intro _ hw'
          obtain ⟨⟨dq2, osq2⟩, hw''⟩ := hw'
          subst hw''
          have b6 := b5.trans ((below_regrown w5 dq2 osq2).mono b5.size)
          generalize grow (redrawn w5 dq2) osq2 = w6 at *
          clear a0 a1 e0 e1 cS
          cases x
          · go_wp2
            go_ret
            refine ⟨ret_int ?_, b6⟩
            rw [unhide HE, (unhide HX').2 (by trivial)]
          · go_wp2
            go_roundw
            case rel => exact ⟨j + 1, by go_num, (unhide HX').1 (by trivial), b6⟩
            case measure =>
              simp only [intOf]
              omega
      · have hcb : (chk r == 0) = false := by simpa using hc
        have HV := hide (show rowE chk less most l = chk r by rw [unhide HE]; exact (unhide HR).1 hc)
        clear hc
        generalize chk r = x at *
        refine CF.mono ?_
        rintro e w5 ⟨rfl, b45⟩
        go_wp2
        go_ret
        exact ⟨ret_int (unhide HV).symm, b3.trans (b45.mono b3.size)⟩
    · have i1 : ¬ (j : Int) < (l.length : Int) := by omega
      have HV := hide (show rowE chk less most l = 0 by rw [unhide HE]; exact row_end inv hlt)
      go_wp2
      go_ret
      exact ⟨ret_int (unhide HV).symm, hbw⟩

set_option maxHeartbeats 4000000 in
set_option maxRecDepth 1000000 in
theorem rowAttr_any (l : List A8) (ao : Option Addr) (cap most : Nat) (chk : A8 → Int) (less : A8 → A8 → Bool) (w : World) (hl : l.length ≤ 1048576) (hr : RowG w ao 8 (l.map A8.cells))
    (CK : ∀ x ∈ l, ∀ w', Below w.heap.size w w' → Calls Tryz.prog 43 #[x.val] w' fun e w'' => e = .returned (.int .i64 (chk x)) ∧ Below w'.heap.size w' w'')
    (LS : ∀ a b w', Calls Tryz.prog 44 #[a.val, b.val] w' fun e w'' => e = .returned (.bool (less a b)) ∧ Below w'.heap.size w' w'') :
    Calls Tryz.prog 42 #[.slice ao l.length cap, .int .i64 most, .func (.func 43) #[] #[], .func (.func 44) #[] #[]] w fun e w' => e = .returned (.int .i64 (rowE chk less most l)) ∧ Below w.heap.size w w' := by
  by_cases h8 : most < l.length
  · have e : rowE chk less most l = 4 := if_pos h8
    rw [e]
    have i8 : (most : Int) < (l.length : Int) := by omega
    clear e CK LS
    go_enter Tryz.func42, Tryz.ntmps42
    go_wp2
    go_ret
    exact ⟨rfl, Below.refl _ _⟩
  have i8 : ¬ (most : Int) < (l.length : Int) := by omega
  have HE := hide (show rowE chk less most l = rowGo chk less none l from if_neg h8)
  have HCK := hide CK
  have HLS := hide LS
  clear CK LS
  go_enter Tryz.func42, Tryz.ntmps42
  go_wp2
  go_loopw [18] (fun iv wr => ∃ i : Nat, iv = .int .i64 i ∧ RowInvE chk less l i ∧ Below w.heap.size w wr) (fun iv _ => l.length - (intOf iv).toNat)
  case atStart => exact ⟨0, by go_num, row_start _ _ l, Below.refl _ _⟩
  case round =>
    obtain ⟨j, rfl, inv, hbw⟩ := hrel
    by_cases hlt : j < l.length
    · have i1 : (j : Int) < (l.length : Int) := by omega
      have HR := hide (row_round inv hlt)
      obtain ⟨b, off, rfl, hb, hcell⟩ := rowG_at hr hbw hlt
      have A : AtE8 wr b (off + j * 8) l[j] := AtE8.of hcell
      have CJ := unhide HCK l[j] (List.getElem_mem _)
      have AP := fun (h : j - 1 < l.length) => rowG_at hr hbw h
      have LJ := fun (h : j - 1 < l.length) => unhide HLS l[j - 1] l[j]
      obtain ⟨r, er⟩ : ∃ r, r = l[j] := ⟨_, rfl⟩
      rw [← er] at A CJ HR LJ
      clear er inv hcell
      have HLJ := hide LJ
      have HAP := hide AP
      clear LJ AP
      unfold A8.val at CJ
      have A3 : AtE8 (wr.alloc (.cells #[.string r.nm, .int .i64 r.v.k, .bool r.v.b, .int .i64 r.v.n, .string r.v.s, .string r.v.t, .string r.v.i, .slice r.v.lo r.v.ll r.v.lc] 56)) wr.heap.size 0 r := ⟨by simp, by simp, by simp, by simp, by simp, by simp, by simp, by simp⟩
      have b3 : Below w.heap.size w (wr.alloc (.cells #[.string r.nm, .int .i64 r.v.k, .bool r.v.b, .int .i64 r.v.n, .string r.v.s, .string r.v.t, .string r.v.i, .slice r.v.lo r.v.ll r.v.lc] 56)) := hbw.alloc hbw.size _
      have bw3 := below1 wr (.cells #[.string r.nm, .int .i64 r.v.k, .bool r.v.b, .int .i64 r.v.n, .string r.v.s, .string r.v.t, .string r.v.i, .slice r.v.lo r.v.ll r.v.lc] 56)
      have z3 := size1 wr (.cells #[.string r.nm, .int .i64 r.v.k, .bool r.v.b, .int .i64 r.v.n, .string r.v.s, .string r.v.t, .string r.v.i, .slice r.v.lo r.v.ll r.v.lc] 56)
      have CF := CJ _ b3
      clear CJ
      obtain ⟨a0, a1, a2, a3, a4, a5, a6, a7⟩ := A
      go_wp2_with fail
      clear a0 a1 a2 a3 a4 a5 a6 a7
      generalize wr.alloc _ = w3 at *
      by_cases hc : chk r = 0
      · rw [hc] at CF
        have Hc := hide hc
        clear hc
        refine CF.mono ?_
        rintro e w5 ⟨rfl, b45⟩
        have b5 := b3.trans (b45.mono b3.size)
        have A5 : AtE8 w5 wr.heap.size 0 r := A3.below b45 (by omega)
        have bw5 := bw3.trans (b45.mono bw3.size)
        clear CF A3
        by_cases hj0 : j = 0
        · subst hj0
          clear A5
          go_wp2_with fail
          go_quiet (fail)
          have b6 := b5.trans ((below_drewN w5 nq).mono b5.size)
          go_wp2
          go_roundw
          case rel => exact ⟨1, by go_num, (unhide HR).2.1 (unhide Hc) (.inl (by trivial)), b6⟩
          case measure =>
            simp only [intOf]
            omega
        · have hp : 0 < j := by omega
          have hpl : j - 1 < l.length := by omega
          obtain ⟨b', off', e', hb', hcell'⟩ := unhide HAP hpl
          cases e'
          have AQ : AtE8 wr b (off + (j - 1) * 8) l[j - 1] := AtE8.of hcell'
          have LQ := unhide HLJ hpl
          have HX := hide (show ∀ x, x = less l[j - 1] r → (x = true → RowInvE chk less l (j + 1)) ∧ (x = false → rowGo chk less none l = 1) from fun x hx => ⟨fun h => (unhide HR).2.1 (unhide Hc) (.inr ⟨hpl, by rw [← hx]; exact h⟩), fun h => (unhide HR).2.2 (unhide Hc) hp (fun _ => by rw [← hx]; exact h)⟩)
          obtain ⟨p, ep⟩ : ∃ p, p = l[j - 1] := ⟨_, rfl⟩
          rw [← ep] at AQ LQ HX
          clear ep hcell' HAP HLJ
          unfold A8.val at LQ
          generalize hx : less p r = x at *
          have HX' := hide (unhide HX x rfl)
          clear hx HX
          have AQ5 := (AQ.below bw5 (by have := hbw.size; omega)).up
          have AR5 := A5.up
          clear A5 AQ
          obtain ⟨a0, a1, a2, a3, a4, a5, a6, a7⟩ := AR5
          obtain ⟨e0, e1, e2, e3, e4, e5, e6, e7⟩ := AQ5
          simp only [Nat.zero_add] at a1 a2 a3 a4 a5 a6 a7
          have ej : (j : Int) - 1 = ((j - 1 : Nat) : Int) := by omega
          have hg : decide ((0 : Int) < (j : Int)) = true := decide_eq_true (by omega)
          have ew : IntKind.i64.wrap ((j - 1 : Nat) : Int) = ((j - 1 : Nat) : Int) := by rw [IntKind.wrap_i64]; omega
          have k0 : (0 : Int) ≤ ((j - 1 : Nat) : Int) := by omega
          have k1 : ((j - 1 : Nat) : Int) < (l.length : Int) := by omega
          have cS := fun d os => Calls.regrown_of (w := w5) (d := d) (os := os) (LQ (grow (redrawn w5 d) os))
          clear LQ
          go_wp2_with fail
          refine wp_region_quiet_below (by kernel_rfl) (by kernel_rfl) ?_
          repeat (quiet_step (exact cS _ _))
          refine wpQuiet_nil ?_
          intro _ hw'
          obtain ⟨⟨dq2, osq2⟩, hw''⟩ := hw'
          subst hw''
          have b6 := b5.trans ((below_regrown w5 dq2 osq2).mono b5.size)
          generalize grow (redrawn w5 dq2) osq2 = w6 at *
          clear a0 a1 a2 a3 a4 a5 a6 a7 e0 e1 e2 e3 e4 e5 e6 e7 cS
          cases x
          · go_wp2
            go_ret
            refine ⟨ret_int ?_, b6⟩
            rw [unhide HE, (unhide HX').2 (by trivial)]
          · go_wp2
            go_roundw
            case rel => exact ⟨j + 1, by go_num, (unhide HX').1 (by trivial), b6⟩
            case measure =>
              simp only [intOf]
              omega
      · have hcb : (chk r == 0) = false := by simpa using hc
        have HV := hide (show rowE chk less most l = chk r by rw [unhide HE]; exact (unhide HR).1 hc)
        clear hc
        generalize chk r = x at *
        refine CF.mono ?_
        rintro e w5 ⟨rfl, b45⟩
        go_wp2
        go_ret
        exact ⟨ret_int (unhide HV).symm, b3.trans (b45.mono b3.size)⟩
    · have i1 : ¬ (j : Int) < (l.length : Int) := by omega
      have HV := hide (show rowE chk less most l = 0 by rw [unhide HE]; exact row_end inv hlt)
      go_wp2
      go_ret
      exact ⟨ret_int (unhide HV).symm, hbw⟩

set_option maxHeartbeats 4000000 in
set_option maxRecDepth 1000000 in
theorem rowEntity_any (l : List E4) (ao : Option Addr) (cap most : Nat) (chk : E4 → Int) (less : E4 → E4 → Bool) (w : World) (hl : l.length ≤ 1048576) (hr : RowG w ao 4 (l.map E4.cells))
    (CK : ∀ x ∈ l, ∀ w', Below w.heap.size w w' → Calls Tryz.prog 23 #[x.val] w' fun e w'' => e = .returned (.int .i64 (chk x)) ∧ Below w'.heap.size w' w'')
    (LS : ∀ a b w', Calls Tryz.prog 24 #[a.val, b.val] w' fun e w'' => e = .returned (.bool (less a b)) ∧ Below w'.heap.size w' w'') :
    Calls Tryz.prog 22 #[.slice ao l.length cap, .int .i64 most, .func (.func 23) #[] #[], .func (.func 24) #[] #[]] w fun e w' => e = .returned (.int .i64 (rowE chk less most l)) ∧ Below w.heap.size w w' := by
  by_cases h8 : most < l.length
  · have e : rowE chk less most l = 4 := if_pos h8
    rw [e]
    have i8 : (most : Int) < (l.length : Int) := by omega
    clear e CK LS
    go_enter Tryz.func22, Tryz.ntmps22
    go_wp2
    go_ret
    exact ⟨rfl, Below.refl _ _⟩
  have i8 : ¬ (most : Int) < (l.length : Int) := by omega
  have HE := hide (show rowE chk less most l = rowGo chk less none l from if_neg h8)
  have HCK := hide CK
  have HLS := hide LS
  clear CK LS
  go_enter Tryz.func22, Tryz.ntmps22
  go_wp2
  go_loopw [18] (fun iv wr => ∃ i : Nat, iv = .int .i64 i ∧ RowInvE chk less l i ∧ Below w.heap.size w wr) (fun iv _ => l.length - (intOf iv).toNat)
  case atStart => exact ⟨0, by go_num, row_start _ _ l, Below.refl _ _⟩
  case round =>
    obtain ⟨j, rfl, inv, hbw⟩ := hrel
    by_cases hlt : j < l.length
    · have i1 : (j : Int) < (l.length : Int) := by omega
      have HR := hide (row_round inv hlt)
      obtain ⟨b, off, rfl, hb, hcell⟩ := rowG_at hr hbw hlt
      have A : AtE4 wr b (off + j * 4) l[j] := AtE4.of hcell
      have CJ := unhide HCK l[j] (List.getElem_mem _)
      have AP := fun (h : j - 1 < l.length) => rowG_at hr hbw h
      have LJ := fun (h : j - 1 < l.length) => unhide HLS l[j - 1] l[j]
      obtain ⟨r, er⟩ : ∃ r, r = l[j] := ⟨_, rfl⟩
      rw [← er] at A CJ HR LJ
      clear er inv hcell
      have HLJ := hide LJ
      have HAP := hide AP
      clear LJ AP
      unfold E4.val at CJ
      have A3 : AtE4 (wr.alloc (.cells #[.string r.t, .string r.i, .slice r.po r.pl r.pc, .slice r.ao r.al r.ac] 29)) wr.heap.size 0 r := ⟨by simp, by simp, by simp, by simp⟩
      have b3 : Below w.heap.size w (wr.alloc (.cells #[.string r.t, .string r.i, .slice r.po r.pl r.pc, .slice r.ao r.al r.ac] 29)) := hbw.alloc hbw.size _
      have bw3 := below1 wr (.cells #[.string r.t, .string r.i, .slice r.po r.pl r.pc, .slice r.ao r.al r.ac] 29)
      have z3 := size1 wr (.cells #[.string r.t, .string r.i, .slice r.po r.pl r.pc, .slice r.ao r.al r.ac] 29)
      have CF := CJ _ b3
      clear CJ
      obtain ⟨a0, a1, a2, a3⟩ := A
      go_wp2_with fail
      clear a0 a1 a2 a3
      generalize wr.alloc _ = w3 at *
      by_cases hc : chk r = 0
      · rw [hc] at CF
        have Hc := hide hc
        clear hc
        refine CF.mono ?_
        rintro e w5 ⟨rfl, b45⟩
        have b5 := b3.trans (b45.mono b3.size)
        have A5 : AtE4 w5 wr.heap.size 0 r := A3.below b45 (by omega)
        have bw5 := bw3.trans (b45.mono bw3.size)
        clear CF A3
        by_cases hj0 : j = 0
        · subst hj0
          clear A5
          go_wp2_with fail
          go_quiet (fail)
          have b6 := b5.trans ((below_drewN w5 nq).mono b5.size)
          go_wp2
          go_roundw
          case rel => exact ⟨1, by go_num, (unhide HR).2.1 (unhide Hc) (.inl (by trivial)), b6⟩
          case measure =>
            simp only [intOf]
            omega
        · have hp : 0 < j := by omega
          have hpl : j - 1 < l.length := by omega
          obtain ⟨b', off', e', hb', hcell'⟩ := unhide HAP hpl
          cases e'
          have AQ : AtE4 wr b (off + (j - 1) * 4) l[j - 1] := AtE4.of hcell'
          have LQ := unhide HLJ hpl
          have HX := hide (show ∀ x, x = less l[j - 1] r → (x = true → RowInvE chk less l (j + 1)) ∧ (x = false → rowGo chk less none l = 1) from fun x hx => ⟨fun h => (unhide HR).2.1 (unhide Hc) (.inr ⟨hpl, by rw [← hx]; exact h⟩), fun h => (unhide HR).2.2 (unhide Hc) hp (fun _ => by rw [← hx]; exact h)⟩)
          obtain ⟨p, ep⟩ : ∃ p, p = l[j - 1] := ⟨_, rfl⟩
          rw [← ep] at AQ LQ HX
          clear ep hcell' HAP HLJ
          unfold E4.val at LQ
          generalize hx : less p r = x at *
          have HX' := hide (unhide HX x rfl)
          clear hx HX
          have AQ5 := (AQ.below bw5 (by have := hbw.size; omega)).up
          have AR5 := A5.up
          clear A5 AQ
          obtain ⟨a0, a1, a2, a3⟩ := AR5
          obtain ⟨e0, e1, e2, e3⟩ := AQ5
          simp only [Nat.zero_add] at a1 a2 a3
          have ej : (j : Int) - 1 = ((j - 1 : Nat) : Int) := by omega
          have hg : decide ((0 : Int) < (j : Int)) = true := decide_eq_true (by omega)
          have ew : IntKind.i64.wrap ((j - 1 : Nat) : Int) = ((j - 1 : Nat) : Int) := by rw [IntKind.wrap_i64]; omega
          have k0 : (0 : Int) ≤ ((j - 1 : Nat) : Int) := by omega
          have k1 : ((j - 1 : Nat) : Int) < (l.length : Int) := by omega
          have cS := fun d os => Calls.regrown_of (w := w5) (d := d) (os := os) (LQ (grow (redrawn w5 d) os))
          clear LQ
          go_wp2_with fail
          refine wp_region_quiet_below (by kernel_rfl) (by kernel_rfl) ?_
          repeat (quiet_step (exact cS _ _))
          refine wpQuiet_nil ?_
          intro _ hw'
          obtain ⟨⟨dq2, osq2⟩, hw''⟩ := hw'
          subst hw''
          have b6 := b5.trans ((below_regrown w5 dq2 osq2).mono b5.size)
          generalize grow (redrawn w5 dq2) osq2 = w6 at *
          clear a0 a1 a2 a3 e0 e1 e2 e3 cS
          cases x
          · go_wp2
            go_ret
            refine ⟨ret_int ?_, b6⟩
            rw [unhide HE, (unhide HX').2 (by trivial)]
          · go_wp2
            go_roundw
            case rel => exact ⟨j + 1, by go_num, (unhide HX').1 (by trivial), b6⟩
            case measure =>
              simp only [intOf]
              omega
      · have hcb : (chk r == 0) = false := by simpa using hc
        have HV := hide (show rowE chk less most l = chk r by rw [unhide HE]; exact (unhide HR).1 hc)
        clear hc
        generalize chk r = x at *
        refine CF.mono ?_
        rintro e w5 ⟨rfl, b45⟩
        go_wp2
        go_ret
        exact ⟨ret_int (unhide HV).symm, b3.trans (b45.mono b3.size)⟩
    · have i1 : ¬ (j : Int) < (l.length : Int) := by omega
      have HV := hide (show rowE chk less most l = 0 by rw [unhide HE]; exact row_end inv hlt)
      go_wp2
      go_ret
      exact ⟨ret_int (unhide HV).symm, hbw⟩
end Go.Proofs.YtnbbimcooilmdaaGreat
