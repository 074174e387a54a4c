/-
  ents.copyRow: what it returns.
-/
import Derived.Test.YtnbbimcooilmdaaGreatEcE
namespace Go.Proofs.YtnbbimcooilmdaaGreat
open Go.RowKit Go.Sort

/-- Entities, one by one. -/
def AllEnt (w : World) (P : Nat → Prop) (es : List E4) (ps : List EntP) : Prop := es.length = ps.length ∧ ∀ j (h : j < es.length) (h' : j < ps.length), IsEnt w P es[j] ps[j]
theorem AllEnt.turn {w w' : World} {P P' : Nat → Prop} {es : List E4} {ps : List EntP} (hs : w.heap.size ≤ w'.heap.size) (hk : ∀ b, P b → b < w.heap.size → w'.heap[b]? = w.heap[b]? ∧ P' b) (h : AllEnt w P es ps) : AllEnt w' P' es ps :=
  ⟨h.1, fun j h1 h2 => (h.2 j h1 h2).turn hs hk⟩
theorem AllEnt.below {w w' : World} {P : Nat → Prop} {es : List E4} {ps : List EntP} (h : AllEnt w P es ps) (hb : Below w.heap.size w w') : AllEnt w' P es ps := h.turn hb.size fun b hp hl => ⟨hb.block b hl, hp⟩
theorem AllEnt.old {w : World} {P : Nat → Prop} {es : List E4} {ps : List EntP} (h : AllEnt w P es ps) : AllEnt w (fun b => b < w.heap.size) es ps := ⟨h.1, fun j h1 h2 => (h.2 j h1 h2).old⟩

/-- A slice of entities. -/
structure RowD where
  ao : Option Addr
  cap : Nat
  es : List E4
def allE (rows : List RowD) : List E4 := (rows.map RowD.es).flatten
theorem allE_take (rows : List RowD) (k : Nat) (h : k < rows.length) : allE (rows.take (k + 1)) = allE (rows.take k) ++ rows[k].es := by
  unfold allE
  rw [List.take_succ_eq_append_getElem h, List.map_append, List.flatten_append]
  simp
theorem allE_le (rows : List RowD) (k : Nat) : (allE (rows.take k)).length ≤ (allE rows).length := by
  have h : allE rows = allE (rows.take k) ++ allE (rows.drop k) := by
    unfold allE
    rw [← List.flatten_append, ← List.map_append, List.take_append_drop]
  rw [h, List.length_append]
  omega
/-- The slices, in memory. -/
def RowsAt (w : World) (vo : Option Addr) (rows : List RowD) : Prop :=
  ∀ k (h : k < rows.length), ∃ b off, vo = some ⟨b, off, none⟩ ∧ b < w.heap.size ∧ w.cell? ⟨b, off + k, none⟩ = some (.slice rows[k].ao rows[k].es.length rows[k].cap)

theorem sizeEnts (W : World) : (sizeOf (Tryz.prog.elem 22)).run Tryz.prog W = .ok 4 W := by kernel_rfl
theorem run_cutE_l (ao : Option Addr) (n cap k : Nat) (hk : k ≤ n) : ∃ ao', ao' = (if cap = k then ao else ao.map (·.add (k * 4))) ∧ ∀ W, (Instr.slice 22 (.slice ao n cap) (some (.int .i64 k)) none none).run Tryz.prog W = .ok (.slice ao' (n - k) (cap - k)) W := by
  refine ⟨_, rfl, fun W => ?_⟩
  rw [run_slice_l (P := Tryz.prog) (w := W) 22 ao n cap (by kernel_rfl) .i64 k (by omega) (by omega)]
  rw [sizeEnts]
  simp [sliced, Result.andThen]
theorem run_cutE_h (ao : Option Addr) (n cap k : Nat) (hk : k ≤ cap) (W : World) : (Instr.slice 22 (.slice ao n cap) none (some (.int .i64 k)) none).run Tryz.prog W = .ok (.slice ao k cap) W := by
  rw [run_slice_h (P := Tryz.prog) (w := W) 22 ao n cap (by kernel_rfl) .i64 k (by omega) (by omega)]
  rw [sizeEnts]
  have e0 : ∀ a : Addr, a.add 0 = a := fun a => by unfold Addr.add; simp
  cases ao <;> simp [sliced, Result.andThen, e0]
theorem szEntity : (Tryz.prog.info? 29).map (·.size) = some 4 := by kernel_rfl
theorem inEntity : (Tryz.prog.info? 29).map (fun i => (i.zero.isSome, i.size, i.bytes)) = some (true, 4, 80) := by kernel_rfl

/-- The room, s entities of which are laid. -/
structure RoomE (w wr : World) (G total off : Nat) (es : List E4) : Prop where
  below : Below w.heap.size w wr
  size : wr.heap.size = G + 1
  le : es.length ≤ total
  room : ∃ rest : List Value, rest.length = (total - es.length) * 4 ∧ wr.heap[G]? = some (.cells ((es.map E4.cells).flatten ++ rest).toArray 29 (0, 0))
  off : es.length < total → off = es.length * 4
set_option maxRecDepth 100000 in
theorem roomE_step {w wr : World} {G total off : Nat} {es es' : List E4} (h : RoomE w wr G total off es) (hG : G = w.heap.size) (ao : Option Addr) (cap : Nat) (hle : es.length + es'.length ≤ total) (hr : RowG w ao 4 (es'.map E4.cells)) :
    ∃ w' off', (Builtin.copy_ #[22, 22] 3 #[.slice (some ⟨G, off, none⟩) (total - es.length) (total - es.length), .slice ao es'.length cap]).run Tryz.prog wr = .ok (.int .i64 es'.length) w' ∧ RoomE w w' G total off' (es ++ es') ∧
      (∀ W, (Instr.slice 22 (.slice (some ⟨G, off, none⟩) (total - es.length) (total - es.length)) (some (.int .i64 es'.length)) none none).run Tryz.prog W = .ok (.slice (some ⟨G, off', none⟩) (total - (es ++ es').length) (total - (es ++ es').length)) W) := by
  have hlen : (es ++ es').length = es.length + es'.length := List.length_append
  obtain ⟨ao', hao, hsl⟩ := run_cutE_l (some ⟨G, off, none⟩) (total - es.length) (total - es.length) es'.length (by omega)
  rw [show total - es.length - es'.length = total - (es ++ es').length by omega] at hsl
  obtain ⟨rest, hrl, hblk⟩ := h.room
  by_cases h0 : es'.length = 0
  · obtain rfl : es' = [] := List.eq_nil_of_length_eq_zero h0
    have ha : ao' = some ⟨G, off, none⟩ := by
      rw [hao]
      split
      · rfl
      · simp [Addr.add]
    refine ⟨wr, off, ?_, ?_, ?_⟩
    · exact run_copy_noneN (P := Tryz.prog) wr 22 22 3 29 4 _ _ _ _ _ _ Tryz.underlying22 szEntity (by simp)
    · rw [List.append_nil]
      exact h
    · intro W
      rw [hsl W, ha]
  · have hoff := h.off (by omega)
    obtain ⟨b, o, rfl, hb, _⟩ := hr 0 (by simp; omega)
    have hfl := flatG_len (es.map E4.cells) (lenE _)
    have hfl' := flatG_len (es'.map E4.cells) (lenE _)
    rw [List.length_map] at hfl hfl'
    have hcp := run_copy_rowN (P := Tryz.prog) wr 22 22 3 29 4 es'.length G off (total - es.length) (total - es.length) ⟨b, o, none⟩ es'.length cap _ 29 (es'.map E4.cells).flatten Tryz.underlying22 szEntity hblk (by show es'.length = min es'.length (total - es.length); omega) hfl' (row_flat (lenE _) (hr.below h.below)) (by simp only [List.size_toArray, List.length_append]; rw [hfl, hfl', hrl, hoff]; omega) (oneE _)
    refine ⟨_, (if total - es.length = es'.length then off else off + es'.length * 4), hcp, ⟨?_, by simpa [World.setRow] using h.size, by omega, ?_, ?_⟩, ?_⟩
    · exact h.below.trans ⟨rfl, rfl, rfl, by simp [World.setRow], fun k hk => setRow_other wr G k _ (by omega)⟩
    · refine ⟨rest.drop (es'.length * 4), by rw [List.length_drop, hrl, hlen]; omega, ?_⟩
      rw [setRow_heap wr G _ _ 29 _ hblk, hoff, List.map_append, List.flatten_append]
      congr 3
      have e1 : ((es.map E4.cells).flatten ++ rest).take (es.length * 4) = (es.map E4.cells).flatten := by rw [← hfl]; simp
      have e2 : ((es.map E4.cells).flatten ++ rest).drop (es.length * 4 + (es'.map E4.cells).flatten.length) = rest.drop (es'.length * 4) := by
        rw [← hfl, List.drop_append, hfl', List.drop_eq_nil_of_le (by omega), List.nil_append]
        congr 1
        omega
      simp only [e1, e2]
    · intro hlt
      rw [if_neg (by omega), hoff, hlen]
      omega
    · intro W
      rw [hsl W, hao]
      split
      · rfl
      · simp [Addr.add]
        omega

/-- The row whose entities are copied one by one. -/
structure DeepE (w wr : World) (G : Nat) (es : List E4) (ps : List EntP) : Prop where
  below : Below w.heap.size w wr
  lt : G < wr.heap.size
  row : RowG wr (some ⟨G, 0, none⟩) 4 (es.map E4.cells)
  fz : ∀ o, wr.frozen? ⟨G, o, none⟩ = false
  all : AllEnt wr (fun b => b ≠ G) es ps
theorem deepE_step {w wr w6 : World} {G j W5 : Nat} {es : List E4} {ps : List EntP} {e' : E4} (h : DeepE w wr G es ps) (hG : w.heap.size ≤ G) (hj : j < es.length) (hj' : j < ps.length) (hW : G < W5) (b6 : Below wr.heap.size wr w6) (he : IsEnt w6 (fun b => W5 ≤ b) e' ps[j]) :
    DeepE w (w6.setCells G (j * 4) e'.cells) G (es.set j e') ps := by
  have hs : (w6.setCells G (j * 4) e'.cells).heap.size = w6.heap.size := size_setCells _ _ _
  refine ⟨belowSetCells _ _ _ (h.below.trans (b6.mono h.below.size)) hG, by rw [hs]; exact Nat.lt_of_lt_of_le h.lt b6.size, ?_, fun o => ?_, by simpa using h.all.1, fun k hk hk' => ?_⟩
  · rw [List.map_set]
    have := rowG_set (vs := e'.cells) (x := e'.cells) (c := 0) (lenE es) (h.row.below b6) (j := j) (by simpa using hj) rfl (fun k hk => absurd hk (Nat.not_lt_zero _)) (fun k => by rw [Nat.zero_add])
    rwa [Nat.add_zero] at this
  · rw [World.frozen?_setCells]
    exact (b6.frozen (p := ⟨G, o, none⟩) h.lt).trans (h.fz o)
  · have hk1 : k < es.length := by simpa using hk
    by_cases e : j = k
    · subst e
      rw [List.getElem_set_self]
      exact he.turn (by rw [hs]; exact Nat.le_refl _) fun b hb _ => ⟨heap_setCells (by omega) _ _ _, by omega⟩
    · rw [List.getElem_set_ne e]
      exact (h.all.2 k hk1 hk').turn (by rw [hs]; exact b6.size) fun b hb hb2 => ⟨(heap_setCells hb _ _ _).trans (b6.block b hb2), hb⟩

/-- A new row of entities. -/
def RowPost (w : World) (ps : List EntP) (n : Nat) (x : Ending) (w' : World) : Prop :=
  Below w.heap.size w w' ∧ ∃ (G : Nat) (es : List E4), x = .returned (.slice (some ⟨G, 0, none⟩) n n) ∧ RowG w' (some ⟨G, 0, none⟩) 4 (es.map E4.cells) ∧ AllEnt w' (fun _ => True) es ps ∧ w.heap.size ≤ G

set_option maxHeartbeats 4000000 in
set_option maxRecDepth 1000000 in
theorem copyRow_any (rows : List RowD) (vo : Option Addr) (vc : Nat) (ps : List EntP) (P : Nat → Prop) (w : World) (hm : rows.length ≤ 1000) (hV : RowsAt w vo rows) (hR : ∀ r ∈ rows, RowG w r.ao 4 (r.es.map E4.cells)) (hA : AllEnt w P (allE rows) ps) (hf : ∀ p ∈ ps, p.fits) (hl : ps.length ≤ 1048576) :
    Calls Tryz.prog 31 #[.slice vo rows.length vc] w fun x w' => RowPost w ps ps.length x w' := by
  obtain ⟨total, ht⟩ : ∃ t, t = ps.length := ⟨_, rfl⟩
  have htE : (allE rows).length = total := by rw [ht]; exact hA.1
  have HV := hide hV
  have HR := hide hR
  have HA := hide hA
  have HF := hide hf
  have HtE := hide htE
  have Hle := hide (fun k => allE_le rows k)
  have Htk := hide (fun k h => allE_take rows k h)
  rw [← ht] at hl ⊢
  have Ht := hide ht
  clear hV hR hA hf htE ht
  go_enter Tryz.func31, Tryz.ntmps31
  go_wp2
  go_loop [3, 14] (fun cv iv => ∃ k : Nat, k ≤ rows.length ∧ iv = .int .i64 k ∧ cv = .int .i64 (allE (rows.take k)).length) (fun _ iv => rows.length - (intOf iv).toNat)
  case atStart => exact ⟨0, Nat.zero_le _, rfl, rfl⟩
  case round =>
    obtain ⟨k, hk, rfl, rfl⟩ := hrel
    have hle := unhide Hle k
    rw [unhide HtE] at hle
    by_cases hlt : k < rows.length
    · have i1 : (k : Int) < (rows.length : Int) := by omega
      obtain ⟨vb, voff, rfl, _, hcell⟩ := unhide HV k hlt
      have hn := congrArg List.length (unhide Htk k hlt)
      rw [List.length_append] at hn
      have hle2 := unhide Hle (k + 1)
      rw [unhide HtE, hn] at hle2
      generalize rows[k].es.length = n1 at *
      generalize rows[k].ao = ao1 at *
      generalize rows[k].cap = cap1 at *
      generalize (allE (rows.take k)).length = s1 at *
      have Hn := hide hn
      clear hn
      go_wp2
      go_round
      case rel => exact ⟨k + 1, by omega, by go_num, by rw [unhide Hn]; go_num⟩
      case measure =>
        simp only [intOf]
        omega
    · obtain rfl : k = rows.length := by omega
      have i1 : ¬ (rows.length : Int) < (rows.length : Int) := by omega
      have e1 : (allE (rows.take rows.length)).length = total := by rw [List.take_length]; exact unhide HtE
      rw [e1]
      obtain ⟨rest, hre, hmk⟩ := make_rowN (P := Tryz.prog) 22 29 4 80 total (total : Int) Tryz.underlying22 inEntity rfl (by omega) (by decide)
      have R0 : RoomE w (w.alloc (.cells rest.toArray 29)) w.heap.size total 0 [] :=
        ⟨below1 _ _, by simp, Nat.zero_le _, ⟨rest, by simpa using hre, by simpa using alloc_heap w (.cells rest.toArray 29)⟩, fun _ => rfl⟩
      clear e1 hre
      have HR0 := hide R0
      clear R0
      go_wp2
      generalize w.alloc _ = w1 at *
      clear hmk
      go_loopw [7, 28] (fun rv iv wr => ∃ (k off : Nat), k ≤ rows.length ∧ iv = .int .i64 k ∧ rv = .slice (some ⟨w.heap.size, off, none⟩) (total - (allE (rows.take k)).length) (total - (allE (rows.take k)).length) ∧ RoomE w wr w.heap.size total off (allE (rows.take k))) (fun _ iv _ => rows.length - (intOf iv).toNat)
      case atStart => exact ⟨0, 0, Nat.zero_le _, rfl, rfl, unhide HR0⟩
      case round =>
        clear HR0
        obtain ⟨k, off, hk, rfl, rfl, rm⟩ := hrel
        by_cases hlt : k < rows.length
        · have i1 : (k : Int) < (rows.length : Int) := by omega
          obtain ⟨vb, voff, rfl, hvb, hcell⟩ := unhide HV k hlt
          have hcell := (rm.below.cell (p := ⟨vb, voff + k, none⟩) hvb).trans hcell
          have hle2 := unhide Hle (k + 1)
          have htk := unhide Htk k hlt
          rw [unhide HtE, htk, List.length_append] at hle2
          obtain ⟨w', off', hcp, rm', hsl⟩ := roomE_step rm rfl rows[k].ao rows[k].cap hle2 (unhide HR rows[k] (List.getElem_mem _))
          rw [← htk] at rm' hsl
          have Hrm := hide rm'
          generalize rows[k].es.length = n1 at *
          generalize rows[k].ao = ao1 at *
          generalize rows[k].cap = cap1 at *
          generalize total - (allE (rows.take k)).length = s1 at *
          obtain ⟨s2, hs2⟩ : ∃ s2, s2 = total - (allE (rows.take (k + 1))).length := ⟨_, rfl⟩
          rw [← hs2] at hsl
          have Hs2 := hide hs2
          clear hs2 rm' htk rm hle2
          go_wp2
          go_roundw
          case rel => exact ⟨k + 1, off', by omega, by go_num, by rw [← unhide Hs2], unhide Hrm⟩
          case measure =>
            simp only [intOf]
            omega
        · obtain rfl : k = rows.length := by omega
          have i2 : ¬ (rows.length : Int) < (rows.length : Int) := by omega
          rw [List.take_length] at rm
          have hEl := unhide HtE
          obtain ⟨rest, hrl, hblk⟩ := rm.room
          rw [hEl, Nat.sub_self, Nat.zero_mul] at hrl
          obtain rfl : rest = [] := List.eq_nil_of_length_eq_zero hrl
          rw [List.append_nil] at hblk
          have hsz := rm.size
          have D0 : DeepE w wr w.heap.size (allE rows) ps :=
            ⟨rm.below, by omega, row_of_flat (lenE _) hblk, fun o => Lib.frozen_of_heap hblk o, (unhide HA).old.turn (by omega) fun b hb _ => ⟨rm.below.block b hb, by omega⟩⟩
          have HD0 := hide D0
          clear D0 hblk hrl rm hEl
          go_wp2
          go_loopw [40] (fun iv wq => ∃ (j : Nat) (es : List E4), j ≤ total ∧ iv = .int .i64 j ∧ DeepE w wq w.heap.size es ps) (fun iv _ => total - (intOf iv).toNat)
          case atStart => exact ⟨0, _, Nat.zero_le _, rfl, unhide HD0⟩
          case round =>
            clear HD0
            obtain ⟨j, es, hj, rfl, D⟩ := hrel
            by_cases hlt : j < total
            · have i3 : (j : Int) < (total : Int) := by omega
              have hjp : j < ps.length := by rw [← unhide Ht]; exact hlt
              have hje : j < es.length := by rw [D.all.1]; exact hjp
              have hbw := D.below
              have hGl := D.lt
              obtain ⟨g, off, e0, hg, hcell⟩ := rowG_at D.row (Below.refl _ wr) hje
              cases e0
              have A : AtE4 wr w.heap.size (j * 4) es[j] := AtE4.of (by simpa only [Nat.zero_add] using hcell)
              have b5 := below1 wr (.cells #[.string es[j].t, .string es[j].i, .slice es[j].po es[j].pl es[j].pc, .slice es[j].ao es[j].al es[j].ac] 29)
              have z5 := size1 wr (.cells #[.string es[j].t, .string es[j].i, .slice es[j].po es[j].pl es[j].pc, .slice es[j].ao es[j].al es[j].ac] 29)
              have CE := copyEntity_any es[j] ps[j] _ _ ((D.all.2 j hje hjp).below b5) (unhide HF _ (List.getElem_mem _))
              have HST := hide (fun (W5 : Nat) (w6 : World) (e' : E4) hW b6 he => deepE_step (W5 := W5) (w6 := w6) (e' := e') D (Nat.le_refl _) hje hjp hW b6 he)
              have hfz := D.fz
              obtain ⟨x, hx⟩ : ∃ x, x = es[j] := ⟨_, rfl⟩
              rw [← hx] at A b5 z5 CE
              clear hx hcell D
              unfold E4.val at CE
              obtain ⟨a0, a1, a2, a3⟩ := A
              go_wp2_with fail
              have A : AtE4 wr w.heap.size (j * 4) x := ⟨a0, a1, a2, a3⟩
              clear a0 a1 a2 a3
              generalize wr.alloc _ = w5 at *
              refine CE.mono ?_
              rintro e w6 ⟨e', rfl, b6, he⟩
              have b56 := b5.trans (b6.mono b5.size)
              have NEXT := hide (unhide HST w5.heap.size w6 e' (by omega) b56 he)
              obtain ⟨a0, a1, a2, a3⟩ := A.below b56 hGl
              have F6 : ∀ o, w6.frozen? ⟨w.heap.size, o, none⟩ = false := fun o => (b56.frozen (p := ⟨w.heap.size, o, none⟩) hGl).trans (hfz o)
              clear CE HST hfz he A
              go_wp2
              go_roundw
              case rel => exact ⟨j + 1, _, by omega, by go_num, unhide NEXT⟩
              case measure =>
                simp only [intOf]
                omega
            · obtain rfl : j = total := by omega
              have i3 : ¬ (j : Int) < (j : Int) := by omega
              have HD := hide D
              clear D
              go_wp2
              go_ret
              exact ⟨(unhide HD).below, w.heap.size, es, rfl, (unhide HD).row, (unhide HD).all.turn (Nat.le_refl _) fun b _ _ => ⟨rfl, trivial⟩, Nat.le_refl _⟩
end Go.Proofs.YtnbbimcooilmdaaGreat
