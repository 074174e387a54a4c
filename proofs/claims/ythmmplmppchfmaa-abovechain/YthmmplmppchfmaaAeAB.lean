/-
  chancellaw9.same; chancelref9.Below, chancelref9.Circle: what they return.
  Good entities in memory: In, Above, Below, Circle, and the reference's, answer alike.
-/
import Derived.Test.YthmmplmppchfmaaAcPU
import Derived.Test.YthmmplmppchfmaaRpAD
import Derived.Test.YthmmplmppchfmaaGdAE
import Derived.Test.YthmmplmppchfmaaMrLM
import Derived.Test.YthmmplmppchfmaaMpHL
import Derived.Test.YthmmplmppchfmaaVeMP
namespace Go.Proofs.Ythmmplmppchfmaa
open Go.RowKit Go.Sort

set_option maxHeartbeats 2000000 in
set_option maxRecDepth 1000000 in
theorem same9_eq (l : List U2) (ao bo : Option Addr) (c d : Nat) (w : World) (hl : l.length ≤ 1000) (hr : RowG w ao 2 (l.map U2.cells)) (hr' : RowG w bo 2 (l.map U2.cells)) :
    Calls Try.prog 10 #[.slice ao l.length c, .slice bo l.length d] w fun e w' => e = .returned (.bool true) ∧ Below w.heap.size w w' := by
  have HR := hide hr
  have HR' := hide hr'
  obtain ⟨n, hn⟩ : ∃ n, n = l.length := ⟨_, rfl⟩
  rw [← hn] at hl ⊢
  have HN := hide hn
  clear hr hr' hn
  have e0 : ((n : Int) != (n : Int)) = false := by simp
  go_enter Try.func10, Try.ntmps10
  go_wp2
  clear e0
  go_loopw [5] (fun iv wr => ∃ i : Nat, iv = .int .i64 i ∧ i ≤ n ∧ Below w.heap.size w wr) (fun iv _ => n - (intOf iv).toNat)
  case atStart => exact ⟨0, by go_num, Nat.zero_le _, Below.refl _ _⟩
  case round =>
    obtain ⟨j, rfl, hj, hbw⟩ := hrel
    have k0 : (0 : Int) ≤ (j : Int) := by omega
    by_cases hlt : j < n
    · have k1 : (j : Int) < (n : Int) := by omega
      have HJ := hide (show j < l.length by rw [← unhide HN]; exact hlt)
      obtain ⟨b, off, rfl, hb, hc⟩ := rowG_at (unhide HR) hbw (unhide HJ)
      obtain ⟨b', off', rfl, hb', hc'⟩ := rowG_at (unhide HR') hbw (unhide HJ)
      have X : AtE2 wr b (off + j * 2) (l[j]'(unhide HJ)) := AtE2.of hc
      have Y : AtE2 wr b' (off' + j * 2) (l[j]'(unhide HJ)) := AtE2.of hc'
      obtain ⟨x, hx⟩ : ∃ x, x = l[j]'(unhide HJ) := ⟨_, rfl⟩
      rw [← hx] at X Y
      clear hx hc hc'
      have NQ : ∀ W, (binOp .neq 28 (.agg #[.string x.t, .string x.i]) (.agg #[.string x.t, .string x.i])).run Try.prog W = .ok (.bool false) W := fun W => by
        rw [binNeqUid, decide_eq_true rfl]
        rfl
      obtain ⟨x0, x1⟩ := X.up
      obtain ⟨y0, y1⟩ := Y.up
      clear X Y
      go_wp2_with fail
      refine wp_region_quiet_below (by kernel_rfl) (by kernel_rfl) ?_
      repeat (first | go_big_quiet_step (fail) | quiet_step (fail))
      refine wpQuiet_nil ?_
      intro _ hw'
      obtain ⟨⟨dq, osq⟩, hw''⟩ := hw'
      subst hw''
      have bq := below_regrown wr dq osq
      have b3 := hbw.trans (bq.mono hbw.size)
      generalize grow (redrawn wr dq) osq = w3 at *
      clear x0 x1 y0 y1 NQ bq
      go_wp2
      go_roundw
      case rel => exact ⟨j + 1, by go_num, by omega, b3⟩
      case measure =>
        simp only [intOf]
        omega
    · have k1 : ¬ (j : Int) < (n : Int) := by omega
      go_wp2
      go_ret
      exact ⟨rfl, hbw⟩

/-- A truth is returned, which tells whether P. -/
def BoolU (P : Prop) (x : Ending) : Prop := ∃ z, x = .returned (.bool z) ∧ (z = true ↔ P)
/-- A row of uids is returned. -/
def RowU (w' : World) (l : List U2) (x : Ending) : Prop := ∃ (ao : Option Addr) (c : Nat), x = .returned (.slice ao l.length c) ∧ RowG w' ao 2 (l.map U2.cells)
/-- Who is below one, in the row's order. -/
def belF (f : U2 → U2 → Bool) (u : U2) (es : List E4) : List U2 := (es.map e4uM).filter fun y => decide (y ≠ u) && f y u
theorem belF_snoc (f : U2 → U2 → Bool) (u : U2) (es : List E4) (j : Nat) (hj : j < es.length) : belF f u (es.take (j + 1)) = belF f u (es.take j) ++ (if (decide (e4uM es[j] ≠ u) && f (e4uM es[j]) u) = true then [e4uM es[j]] else []) := by
  unfold belF
  rw [List.take_succ_eq_append_getElem hj, List.map_append, List.filter_append]
  congr 1
  rw [List.map_cons, List.map_nil, List.filter_cons, List.filter_nil]
theorem belF_len (f : U2 → U2 → Bool) (u : U2) (es : List E4) : (belF f u es).length ≤ es.length := by
  unfold belF
  refine Nat.le_trans (List.length_filter_le _ _) ?_
  rw [List.length_map]
  exact Nat.le_refl _
set_option maxHeartbeats 4000000 in
set_option maxRecDepth 1000000 in
theorem r9below_any (es : List E4) (f : U2 → U2 → Bool) (lo : Option Addr) (c : Nat) (u : U2) (w : World) (hl : es.length ≤ 900) (hr : RowG w lo 4 (es.map E4.cells))
    (hI : ∀ (w' : World) (y : U2), Below w.heap.size w w' → Calls Try.prog 9 #[.slice lo es.length c, .agg #[.string y.t, .string y.i], .agg #[.string u.t, .string u.i]] w' fun e w'' => e = .returned (.bool (f y u)) ∧ Below w'.heap.size w' w'') :
    Calls Try.prog 14 #[.slice lo es.length c, .agg #[.string u.t, .string u.i]] w fun x w' => Below w.heap.size w w' ∧ RowU w' (belF f u es) x := by
  have b1 := ac1 w (.cells #[.string u.t, .string u.i] 28)
  have h1 := alloc_heap w (.cells #[.string u.t, .string u.i] 28)
  have HR := hide hr
  have HI := hide hI
  clear hr hI
  obtain ⟨n, hn⟩ : ∃ n, n = es.length := ⟨_, rfl⟩
  have HN := hide hn
  rw [← hn] at hl ⊢
  clear hn
  go_enter Try.func14, Try.ntmps14
  go_wp2
  generalize w.alloc _ = w1 at *
  go_loopw [5, 6] (fun ov iv wr => ∃ i : Nat, iv = .int .i64 i ∧ i ≤ n ∧ Below w1.heap.size w1 wr ∧ wr.ownsRow w1.heap.size 28 2 ov (belF f u (es.take i)).length ((belF f u (es.take i)).map U2.cells).flatten) (fun _ iv _ => n - (intOf iv).toNat)
  case atStart => exact ⟨0, by go_num, Nat.zero_le _, Below.refl _ _, World.ownsRow_nil _ _ _ _⟩
  case round =>
    rename World => wr
    obtain ⟨i, rfl, hi, hbw, how⟩ := hrel
    have HOW := hide how
    have bw := b1.trans (hbw.mono b1.size)
    have k0 : (0 : Int) ≤ (i : Int) := by omega
    clear how
    by_cases hlt : i < n
    · have k1 : (i : Int) < (n : Int) := by omega
      have HJ := hide (show i < es.length by rw [← unhide HN]; exact hlt)
      obtain ⟨b, off, rfl, hb, hcx⟩ := rowG_at (unhide HR) bw (unhide HJ)
      have AT : AtE4 wr b (off + i * 4) (es[i]'(unhide HJ)) := AtE4.of hcx
      have hbel : belF f u (es.take (i + 1)) = belF f u (es.take i) ++ (if (decide (e4uM (es[i]'(unhide HJ)) ≠ u) && f (e4uM (es[i]'(unhide HJ))) u) = true then [e4uM (es[i]'(unhide HJ))] else []) := belF_snoc f u es i (unhide HJ)
      obtain ⟨y, hy⟩ : ∃ y : U2, y = e4uM (es[i]'(unhide HJ)) := ⟨_, rfl⟩
      have a0 : wr.cell? ⟨b, off + i * 4, none⟩ = some (.string y.t) := by rw [hy]; exact AT.c0
      have a1 : wr.cell? ⟨b, off + i * 4 + 1, none⟩ = some (.string y.i) := by rw [hy]; exact AT.c1
      rw [← hy] at hbel
      have HBEL := hide hbel
      clear AT hcx hy hbel
      have hU := kept_of_below hbw h1
      have g0 := cell_regrown a0
      have g1 := cell_regrown a1
      have u0 := cell_regrown (show wr.cell? ⟨w.heap.size, 0, none⟩ = some (.string u.t) by rw [Lib.cell_of_heap hU]; rfl)
      have u1 := cell_regrown (show wr.cell? ⟨w.heap.size, 1, none⟩ = some (.string u.i) by rw [Lib.cell_of_heap hU]; rfl)
      have NQ := binNeqUid y u
      have i9 := fun d os => Calls.regrown_of (w := wr) (d := d) (os := os) (unhide HI (grow (redrawn wr d) os) y (bw.trans ((below_regrown wr d os).mono bw.size)))
      rw [← unhide HN] at i9
      clear hU
      by_cases hyu : y = u
      · have HB2 := hide (show belF f u (es.take (i + 1)) = belF f u (es.take i) by rw [unhide HBEL, if_neg (by simp [hyu]), List.append_nil])
        rw [show (!decide (y = u)) = false by simp [hyu]] at NQ
        clear hyu i9
        go_wp2_with fail
        refine wp_region_quiet_below (by kernel_rfl) (by kernel_rfl) ?_
        repeat (first | go_big_quiet_step (fail) | quiet_step (fail))
        refine wpQuiet_nil ?_
        intro _ hw'
        obtain ⟨⟨dq, osq⟩, hw''⟩ := hw'
        subst hw''
        have bq := below_regrown wr dq osq
        have b3 := hbw.trans (bq.mono hbw.size)
        have HOW3 := hide (own_keptA (unhide HOW) fun g _ hg => bq.block g hg)
        clear g0 g1 u0 u1 a0 a1 NQ bq
        generalize grow (redrawn wr dq) osq = w3 at *
        go_wp2
        go_roundw
        case rel => exact ⟨i + 1, by go_num, by omega, b3, by rw [unhide HB2]; exact unhide HOW3⟩
        case measure =>
          simp only [intOf]
          omega
      · rw [show (!decide (y = u)) = true by simp [hyu]] at NQ
        have HYU := hide hyu
        clear hyu
        obtain ⟨z, hz⟩ : ∃ z, z = f y u := ⟨_, rfl⟩
        rw [← hz] at i9
        have HZ := hide hz
        clear hz
        cases z with
        | false =>
          have HB2 := hide (show belF f u (es.take (i + 1)) = belF f u (es.take i) by rw [unhide HBEL, if_neg (by rw [← unhide HZ]; simp), List.append_nil])
          go_wp2_with fail
          refine wp_region_quiet_below (by kernel_rfl) (by kernel_rfl) ?_
          repeat (first | go_big_quiet_step (fail) | quiet_step (fail))
          quiet_step (exact i9 _ _)
          repeat (first | go_big_quiet_step (fail) | quiet_step (fail))
          refine wpQuiet_nil ?_
          intro _ hw'
          obtain ⟨⟨dq, osq⟩, hw''⟩ := hw'
          subst hw''
          have bq := below_regrown wr dq osq
          have b3 := hbw.trans (bq.mono hbw.size)
          have HOW3 := hide (own_keptA (unhide HOW) fun g _ hg => bq.block g hg)
          clear g0 g1 u0 u1 a0 a1 NQ i9 bq
          generalize grow (redrawn wr dq) osq = w3 at *
          go_wp2
          go_roundw
          case rel => exact ⟨i + 1, by go_num, by omega, b3, by rw [unhide HB2]; exact unhide HOW3⟩
          case measure =>
            simp only [intOf]
            omega
        | true =>
          have HB2 := hide (show belF f u (es.take (i + 1)) = belF f u (es.take i) ++ [y] by rw [unhide HBEL, if_pos (by rw [← unhide HZ]; simp [unhide HYU])])
          have hbl := belF_len f u (es.take i)
          rw [List.length_take] at hbl
          go_wp2_with fail
          refine wp_region_quiet_below (by kernel_rfl) (by kernel_rfl) ?_
          repeat (first | go_big_quiet_step (fail) | quiet_step (fail))
          quiet_step (exact i9 _ _)
          repeat (first | go_big_quiet_step (fail) | quiet_step (fail))
          refine wpQuiet_nil ?_
          intro _ hw'
          obtain ⟨⟨dq, osq⟩, hw''⟩ := hw'
          subst hw''
          have bq := below_regrown wr dq osq
          have b3 := hbw.trans (bq.mono hbw.size)
          have HOW3 := hide (own_keptA (unhide HOW) fun g _ hg => bq.block g hg)
          have x0 := g0 dq osq
          have x1 := g1 dq osq
          clear g0 g1 u0 u1 a0 a1 NQ i9 bq
          generalize grow (redrawn wr dq) osq = w3 at *
          have b4 := ac1 w3 (.cells #[.string y.t, .string y.i] 28)
          have h4 := alloc_heap w3 (.cells #[.string y.t, .string y.i] 28)
          have HOW4 := hide (own_keptA (unhide HOW3) fun g _ hg => b4.block g hg)
          have HR4 := hide (rowG_one h4)
          have b34 := b3.trans (b4.mono b3.size)
          clear h4 b4
          go_wp2_with (at_builtin; refine wpList_appU (A := belF f u (es.take i)) (C := [y]) rfl _ _ rfl rfl rfl (unhide HOW4) rfl (unhide HR4) (by rw [List.length_singleton]; have := unhide HN; omega) (by have := b34.size; exact this) ?_)
          intro v5 w5 ho5 hg5
          have hO5 : w5.ownsRow w1.heap.size 28 2 v5 (belF f u (es.take i) ++ [y]).length ((belF f u (es.take i) ++ [y]).map U2.cells).flatten := by simpa using ho5
          have HB5 := hide (show Below w1.heap.size w1 w5 from b34.grown hg5 b34.size (fun g e => ((unhide HOW4).lt g e).1))
          have HO5 := hide hO5
          clear ho5 hg5 hO5
          go_wp2
          go_roundw
          case rel => exact ⟨i + 1, by go_num, by omega, unhide HB5, by rw [unhide HB2]; exact unhide HO5⟩
          case measure =>
            simp only [intOf]
            omega
    · obtain rfl : i = n := by omega
      have k1 : ¬ (i : Int) < (i : Int) := by omega
      have HO := hide (show wr.ownsRow w1.heap.size 28 2 u5 (belF f u es).length ((belF f u es).map U2.cells).flatten from by
        have := unhide HOW
        rwa [List.take_of_length_le (by rw [← unhide HN]; exact Nat.le_refl _)] at this)
      clear HOW
      obtain ⟨ao9, c9, rfl, hrow9⟩ := own_rowA (unhide HO)
      have HO9 := hide hrow9
      clear hrow9 HO
      go_wp2
      go_ret
      exact ⟨bw, ao9, c9, rfl, unhide HO9⟩
/-- A row of entities that is laid one behind the other. -/
theorem own_row4A {w : World} {B : Nat} {v : Value} {es : List E4} (h : w.ownsRow B 40 4 v es.length (es.map E4.cells).flatten) : ∃ ao cap, v = .slice ao es.length cap ∧ RowG w ao 4 (es.map E4.cells) := by
  have h' : w.ownsRow B 40 4 v (es.map E4.cells).length (es.map E4.cells).flatten := by rw [List.length_map]; exact h
  obtain ⟨ao, cap, hv, hr, _, _⟩ := rowG_own (fun c hc => by
    obtain ⟨e, _, rfl⟩ := List.mem_map.1 hc
    rfl) h'
  rw [List.length_map] at hv
  exact ⟨ao, cap, hv, hr⟩
theorem mem_dropS {ps : List EntP} (hn : (ps.map EntP.u).Nodup) (u x v : U2) : v ∈ upS (dropP ps u) x ↔ v ∈ cutS (upS ps) u x := by
  have hn2 : ((dropP ps u).map EntP.u).Nodup := by
    unfold dropP
    exact hn.sublist (List.Sublist.map _ List.filter_sublist)
  rw [mem_upS hn2]
  unfold cutS dropP
  constructor
  · rintro ⟨p, hp, rfl, hv⟩
    obtain ⟨h1, h2⟩ := List.mem_filter.1 hp
    rw [if_neg (by simpa using h2)]
    exact (mem_upS hn _ _).2 ⟨p, h1, rfl, hv⟩
  · intro h
    split at h
    · cases h
    · rename_i hne
      obtain ⟨p, hp, rfl, hv⟩ := (mem_upS hn _ _).1 h
      exact ⟨p, List.mem_filter.2 ⟨hp, by simpa using hne⟩, rfl, hv⟩
set_option maxHeartbeats 4000000 in
set_option maxRecDepth 1000000 in
theorem r9circle_any (es : List E4) (ps : List EntP) (lo po : Option Addr) (c pc : Nat) (u : U2) (pl N : List U2) (w : World) (hl : es.length ≤ 900) (hr : RowG w lo 4 (es.map E4.cells)) (hA : AllEnt w (fun _ => True) es ps) (hn : (ps.map EntP.u).Nodup) (hN : ∀ x, ∀ v ∈ upS ps x, v ∈ N) (hN1 : N.length ≤ 100000) (hS : ∀ x, (upS ps x).length ≤ 1000) (hpl : pl.length ≤ 1000) (hrp : RowG w po 2 (pl.map U2.cells)) :
    Calls Try.prog 16 #[.slice lo es.length c, .agg #[.string u.t, .string u.i], .slice po pl.length pc] w fun x w' => Below w.heap.size w w' ∧ BoolU (∃ f ∈ pl, Way (cutS (upS ps) u) f u) x := by
  have b1 := ac1 w (.cells #[.string u.t, .string u.i] 28)
  have h1 := alloc_heap w (.cells #[.string u.t, .string u.i] 28)
  have D := r8drop_any es lo c u _ (hr.below b1) (by omega)
  have HRP := hide hrp
  have hn2 : ((dropP ps u).map EntP.u).Nodup := by
    unfold dropP
    exact hn.sublist (List.Sublist.map _ List.filter_sublist)
  have hcut : ∀ x, ∀ v ∈ upS (dropP ps u) x, v ∈ upS ps x := fun x v hv => by
    have := (mem_dropS hn u x v).1 hv
    unfold cutS at this
    split at this
    · cases this
    · exact this
  have hSd : ∀ x, (upS (dropP ps u) x).length ≤ 100000 := fun x => by
    have : upS (dropP ps u) x = [] ∨ upS (dropP ps u) x = upS ps x := by
      unfold upS
      cases h : findP (dropP ps u) x with
      | none => exact .inl rfl
      | some p =>
        right
        obtain ⟨hp, hu⟩ := find_is h
        have h2 := find_mem hn (List.mem_filter.1 hp).1
        rw [hu] at h2
        rw [h2]
    rcases this with h | h
    · rw [h]; exact Nat.zero_le _
    · rw [h]
      have := hS x
      omega
  have HWE := hide (fun (x : U2) => show Way (upS (dropP ps u)) x u ↔ Way (cutS (upS ps) u) x u from ⟨way_sub fun x v hv => (mem_dropS hn u x v).1 hv, way_sub fun x v hv => (mem_dropS hn u x v).2 hv⟩)
  have hel : (dropE es u).length ≤ es.length := List.length_filter_le _ _
  have HI := hide (fun (ao : Option Addr) (cap : Nat) (w' : World) (hb : Below w.heap.size w w') (hro : RowG w' ao 4 ((dropE es u).map E4.cells)) (y : U2) => r9in_any (dropE es u) (dropP ps u) ao cap y u N w' (by omega) hro (allEnt_dropped (hA.below hb) u) (fun x v hv => hN x v (hcut x v hv)) hN1 hSd)
  clear hr hA hn hN hS hrp hn2 hcut hSd hel
  obtain ⟨n, hnn⟩ : ∃ n, n = pl.length := ⟨_, rfl⟩
  have HNN := hide hnn
  rw [← hnn] at hpl ⊢
  clear hnn
  obtain ⟨ne, hne⟩ : ∃ ne, ne = es.length := ⟨_, rfl⟩
  rw [← hne] at D ⊢
  clear hne hl
  unfold U2.val at D
  go_enter Try.func16, Try.ntmps16
  go_upto_region 1 with fail
  generalize w.alloc _ = w1 at *
  have u0 : w1.cell? ⟨w.heap.size, 0, none⟩ = some (.string u.t) := by rw [Lib.cell_of_heap h1]; rfl
  have u1 : w1.cell? ⟨w.heap.size, 1, none⟩ = some (.string u.i) := by rw [Lib.cell_of_heap h1]; rfl
  go_wp2_with fail
  refine D.mono ?_
  clear D u0 u1
  rintro e w2 ⟨b2, v, rfl, how⟩
  obtain ⟨ao, cap, rfl, hro⟩ := own_row4A how
  have h2 := kept_of_below b2 h1
  have b12 := b1.trans (b2.mono b1.size)
  have HRO := hide hro
  clear how hro b2 h1
  generalize (dropE es u).length = nd at *
  go_wp2_with fail
  go_loopw [8] (fun iv wr => ∃ i : Nat, iv = .int .i64 i ∧ i ≤ n ∧ Below w2.heap.size w2 wr ∧ ∀ f ∈ pl.take i, ¬ Way (cutS (upS ps) u) f u) (fun iv _ => n - (intOf iv).toNat)
  case atStart => exact ⟨0, by go_num, Nat.zero_le _, Below.refl _ _, fun f hf => by simp at hf⟩
  case round =>
    obtain ⟨i, rfl, hi, hbw, hno⟩ := hrel
    have HNO := hide hno
    clear hno
    have bw := b12.trans (hbw.mono b12.size)
    have k0 : (0 : Int) ≤ (i : Int) := by omega
    by_cases hlt : i < n
    · have k1 : (i : Int) < (n : Int) := by omega
      have HJ := hide (show i < pl.length by rw [← unhide HNN]; exact hlt)
      obtain ⟨b, off, rfl, hb, hc⟩ := rowG_at (unhide HRP) bw (unhide HJ)
      have X : AtE2 wr b (off + i * 2) (pl[i]'(unhide HJ)) := AtE2.of hc
      have HTK := hide (List.take_succ_eq_append_getElem (unhide HJ))
      have HMM := hide (List.getElem_mem (unhide HJ))
      obtain ⟨x, hx⟩ : ∃ x, x = pl[i]'(unhide HJ) := ⟨_, rfl⟩
      rw [← hx] at X HTK HMM
      clear hx hc
      have hU := kept_of_below hbw h2
      have u0 := cell_regrown (show wr.cell? ⟨w.heap.size, 0, none⟩ = some (.string u.t) by rw [Lib.cell_of_heap hU]; rfl)
      have u1 := cell_regrown (show wr.cell? ⟨w.heap.size, 1, none⟩ = some (.string u.i) by rw [Lib.cell_of_heap hU]; rfl)
      obtain ⟨x0, x1⟩ := X.up
      obtain ⟨z, hz⟩ : ∃ z : Bool, z = true ↔ Way (upS (dropP ps u)) x u := ⟨@decide _ (Classical.propDecidable _), @decide_eq_true_iff _ (Classical.propDecidable _)⟩
      have hin : ∀ w', Below wr.heap.size wr w' → Calls Try.prog 9 #[.slice ao nd cap, .agg #[.string x.t, .string x.i], .agg #[.string u.t, .string u.i]] w' fun e w'' => e = .returned (.bool z) ∧ Below w'.heap.size w' w'' := fun w' hb' => by
        have hh := unhide HI ao cap w' (bw.trans (hb'.mono bw.size)) ((unhide HRO).below (hbw.trans (hb'.mono hbw.size))) x
        exact hh.mono fun e w'' ⟨hb2, zz, he, hzz⟩ => ⟨by rw [he]; congr 2; rw [Bool.eq_iff_iff, hzz, hz], hb2⟩
      have i9 := fun d os => Calls.regrown_of (w := wr) (d := d) (os := os) (hin (grow (redrawn wr d) os) (below_regrown wr d os))
      have HZ := hide (hz.trans (unhide HWE x))
      clear hz hin X hU
      go_wp2_with fail
      refine wp_region_quiet_below (by kernel_rfl) (by kernel_rfl) ?_
      repeat (first | go_big_quiet_step (fail) | quiet_step (fail))
      quiet_step (exact i9 _ _)
      repeat (first | go_big_quiet_step (fail) | quiet_step (fail))
      refine wpQuiet_nil ?_
      intro _ hw'
      obtain ⟨⟨dq, osq⟩, hw''⟩ := hw'
      subst hw''
      have bq := below_regrown wr dq osq
      have b3 := hbw.trans (bq.mono hbw.size)
      clear u0 u1 x0 x1 i9 bq
      generalize grow (redrawn wr dq) osq = w3 at *
      have b13 := hide (b12.trans (b3.mono b12.size))
      cases z with
      | true =>
        go_wp2
        go_ret
        exact ⟨unhide b13, true, rfl, fun _ => ⟨x, unhide HMM, (unhide HZ).1 (by trivial)⟩, fun _ => rfl⟩
      | false =>
        go_wp2
        go_roundw
        case rel =>
          refine ⟨i + 1, by go_num, by omega, b3, fun f hf => ?_⟩
          rw [unhide HTK, List.mem_append] at hf
          rcases hf with hf | hf
          · exact unhide HNO f hf
          · rw [List.mem_singleton.1 hf]
            exact fun hw => by cases (unhide HZ).2 hw
        case measure =>
          simp only [intOf]
          omega
    · have k1 : ¬ (i : Int) < (n : Int) := by omega
      have HN2 := hide (show ¬ ∃ f ∈ pl, Way (cutS (upS ps) u) f u from fun ⟨f, hf, hw⟩ => unhide HNO f (by rw [List.take_of_length_le (by rw [← unhide HNN]; omega)]; exact hf) hw)
      go_wp2
      go_ret
      exact ⟨bw, false, rfl, fun h => (by cases h), fun h => absurd h (unhide HN2)⟩
end Go.Proofs.Ythmmplmppchfmaa

namespace Go.Proofs.Ythmmplmppchfmaa
open Go.RowKit Go.Sort

/-- What an operation answers: this value; a value by a block, not below B, that holds this; a row of these uids; anything. -/
inductive Sw where
  | eq (v : Value)
  | blk (B : Nat) (f : Nat → Value) (o : Obj)
  | row (L : List U2)
  | any
def Sw.sp : Sw → Value → World → Prop
  | .eq u, v, _ => v = u
  | .blk B f o, v, w => ∃ b, B ≤ b ∧ v = f b ∧ w.heap[b]? = some o
  | .row L, v, w => ∃ (ao : Option Addr) (c : Nat), v = .slice ao L.length c ∧ RowG w ao 2 (L.map U2.cells)
  | .any, _, _ => True
theorem Sw.up {w w' : World} (hb : Below w.heap.size w w') : ∀ (s : Sw) (v : Value), s.sp v w → s.sp v w'
  | .eq _, _, h => h
  | .blk _ _ _, _, ⟨b, hB, e, h⟩ => ⟨b, hB, e, kept_of_below hb h⟩
  | .row _, _, ⟨ao, c, e, h⟩ => ⟨ao, c, e, h.below hb⟩
  | .any, _, _ => trivial
def SpW (l : List Sw) : Nat → Value → World → Prop := fun q v w => (l.getD q .any).sp v w
theorem SpW.up {l : List Sw} {w w' : World} (hb : Below w.heap.size w w') : ∀ q u, SpW l q u w → SpW l q u w' := fun _ _ h => Sw.up hb _ _ h

/-- The one row that Above can answer. -/
theorem abv_ex {ps : List EntP} (h : GL ps) (u : U2) : ∃ La : List U2, La.length ≤ 36 ∧ ∀ l : List U2, l.Pairwise (fun a b => lessU a b = true) → (∀ x, x ∈ l ↔ ∃ f ∈ upS ps u, Way (upS ps) f x) → l = La := by
  have hm : ∀ x, x ∈ setOf lessU ((parsP ps).filter fun x => @decide (∃ f ∈ upS ps u, Way (upS ps) f x) (Classical.propDecidable _)) ↔ ∃ f ∈ upS ps u, Way (upS ps) f x := fun x => by
    rw [mem_setOf sto_lessU, List.mem_filter]
    constructor
    · rintro ⟨_, h⟩
      exact @of_decide_eq_true _ (Classical.propDecidable _) h
    · intro hx
      refine ⟨?_, @decide_eq_true _ (Classical.propDecidable _) hx⟩
      obtain ⟨f, hf, hw⟩ := hx
      cases hw with
      | here => exact h.up _ _ hf
      | step _ hx => exact h.up _ _ hx
  have hr := rising_setOf sto_lessU ((parsP ps).filter fun x => @decide (∃ f ∈ upS ps u, Way (upS ps) f x) (Classical.propDecidable _))
  refine ⟨_, h.above_len (u := u) (hr.imp fun h e => by rw [e, sto_lessU.irr] at h; cases h) hm, fun l hl hlm => rising_same sto_lessU l _ hl hr fun z => (hlm z).trans (hm z).symm⟩
theorem bel_eq {ps : List EntP} (h : GL ps) {f : U2 → U2 → Bool} (hf : IsW (upS ps) f) {u : U2} {m : List U2} (hI : ReachI (downS (pairsP ps)) [u] (m, [])) (es : List E4) : belP u m es = belF f u es := by
  unfold belP belF
  refine List.filter_congr fun y _ => ?_
  congr 1
  rw [Bool.eq_iff_iff, decide_eq_true_eq, reachI_end hI, hf y u, ← way_down h.nd]
  simp
section
variable {w : World} {ao : Option Addr} {gs : List E4} {ps : List EntP}
theorem upS_len4 (h : GL ps) (x : U2) : (upS ps x).length ≤ 1000 := by
  unfold upS
  cases hf : findP ps x with
  | none => exact Nat.zero_le _
  | some p => exact h.ps1000 p (find_is hf).1
theorem G9.rin (h : G9 w ao gs ps) {f : U2 → U2 → Bool} (hf : IsW (upS ps) f) (cap : Nat) (u a : U2) :
    Calls Try.prog 9 #[.slice ao gs.length cap, .agg #[.string u.t, .string u.i], .agg #[.string a.t, .string a.i]] w fun e w' => e = .returned (.bool (f u a)) ∧ Below w.heap.size w w' := by
  refine (r9in_any gs ps ao cap u a (parsP ps) w (by have := h.len; omega) h.row h.all h.gl.up (by have := h.gl.pars; omega) (fun x => by have := upS_len4 h.gl x; omega)).mono ?_
  rintro e w' ⟨hb, z, he, hz⟩
  exact ⟨by rw [he]; congr 2; rw [Bool.eq_iff_iff, hz, hf u a], hb⟩
theorem G9.abv (h : G9 w ao gs ps) {u : U2} {La : List U2} (hL : ∀ l : List U2, l.Pairwise (fun a b => lessU a b = true) → (∀ x, x ∈ l ↔ ∃ f ∈ upS ps u, Way (upS ps) f x) → l = La) (cap : Nat) :
    Calls Try.prog 11 #[.slice ao gs.length cap, .agg #[.string u.t, .string u.i]] w fun e w' => Below w.heap.size w w' ∧ RowU w' La e := by
  refine (h.above9 cap u).mono ?_
  rintro e w' ⟨hb, lo, c, l, he, hr, ⟨hs, hm⟩, _⟩
  obtain rfl := hL l hs hm
  exact ⟨hb, lo, c, he, hr⟩
theorem G9.rabv (h : G9 w ao gs ps) {u : U2} {La : List U2} (hL : ∀ l : List U2, l.Pairwise (fun a b => lessU a b = true) → (∀ x, x ∈ l ↔ ∃ f ∈ upS ps u, Way (upS ps) f x) → l = La) (cap : Nat) :
    Calls Try.prog 12 #[.slice ao gs.length cap, .agg #[.string u.t, .string u.i]] w fun e w' => Below w.heap.size w w' ∧ RowU w' La e := by
  refine (r9above_any gs ps ao cap u (parsP ps) w (by have := h.len; omega) h.row h.all h.gl.up (by have := h.gl.pars; omega) (fun x => by have := upS_len4 h.gl x; omega)).mono ?_
  rintro e w' ⟨hb, v, l, he, _, hs, hm, how⟩
  obtain rfl := hL l hs hm
  obtain ⟨lo, c, rfl, hr⟩ := own_rowA how
  exact ⟨hb, lo, c, he, hr⟩
theorem G9.bel (h : G9 w ao gs ps) {f : U2 → U2 → Bool} (hf : IsW (upS ps) f) (cap : Nat) (u : U2) :
    Calls Try.prog 13 #[.slice ao gs.length cap, .agg #[.string u.t, .string u.i]] w fun e w' => Below w.heap.size w w' ∧ RowU w' (belF f u gs) e := by
  refine (below_any gs (pairsP ps) ao cap u w (by have := h.len; omega) h.row (down_all h.all h.gl.ps1000) h.gl.down).mono ?_
  rintro e w' ⟨hb, v, m, he, hI, how⟩
  rw [bel_eq h.gl hf hI] at how
  obtain ⟨lo, c, rfl, hr⟩ := own_rowA how
  exact ⟨hb, lo, c, he, hr⟩
theorem G9.rbel (h : G9 w ao gs ps) {f : U2 → U2 → Bool} (hf : IsW (upS ps) f) (cap : Nat) (u : U2) :
    Calls Try.prog 14 #[.slice ao gs.length cap, .agg #[.string u.t, .string u.i]] w fun e w' => Below w.heap.size w w' ∧ RowU w' (belF f u gs) e :=
  r9below_any gs f ao cap u w (by have := h.len; omega) h.row fun w' y hb => (h.below hb).rin hf cap y u
theorem G9.cir (h : G9 w ao gs ps) {po : Option Addr} {pc : Nat} {pl : List U2} {z : Bool} {u : U2} (hz : z = true ↔ ∃ f ∈ pl, Way (cutS (upS ps) u) f u) (hp : RowG w po 2 (pl.map U2.cells)) (hl : pl.length ≤ 4) (cap : Nat) :
    Calls Try.prog 15 #[.slice ao gs.length cap, .agg #[.string u.t, .string u.i], .slice po pl.length pc] w fun e w' => e = .returned (.bool z) ∧ Below w.heap.size w w' := by
  refine (circle_any (cutS (upS ps) u) gs ao po cap pc u pl (parsP ps ++ pl) w (by have := h.len; omega) h.row hp (by omega) (fun ad e hne => rowG_blk hp (by simpa using hne) ad e) (steps_del h.all h.gl.nd h.gl.ps1000 u) (fun y hy => List.mem_append.2 (.inr hy)) (fun y v hv => by
    unfold cutS at hv
    split at hv
    · cases hv
    · exact List.mem_append.2 (.inl (h.gl.up y v hv))) (by
    rw [List.length_append]
    have h1 := flat_len3 ps h.gl.ps
    have h2 := h.gl.len
    omega)).mono ?_
  rintro e w' ⟨hb, zz, he, hzz⟩
  exact ⟨by rw [he]; congr 2; rw [Bool.eq_iff_iff, hzz, hz], hb⟩
theorem G9.rcir (h : G9 w ao gs ps) {po : Option Addr} {pc : Nat} {pl : List U2} {z : Bool} {u : U2} (hz : z = true ↔ ∃ f ∈ pl, Way (cutS (upS ps) u) f u) (hp : RowG w po 2 (pl.map U2.cells)) (hl : pl.length ≤ 4) (cap : Nat) :
    Calls Try.prog 16 #[.slice ao gs.length cap, .agg #[.string u.t, .string u.i], .slice po pl.length pc] w fun e w' => e = .returned (.bool z) ∧ Below w.heap.size w w' := by
  refine (r9circle_any gs ps ao po cap pc u pl (parsP ps) w (by have := h.len; omega) h.row h.all h.gl.nd h.gl.up (by have := h.gl.pars; omega) (upS_len4 h.gl) (by omega) hp).mono ?_
  rintro e w' ⟨hb, zz, he, hzz⟩
  exact ⟨by rw [he]; congr 2; rw [Bool.eq_iff_iff, hzz, hz], hb⟩
end
end Go.Proofs.Ythmmplmppchfmaa
