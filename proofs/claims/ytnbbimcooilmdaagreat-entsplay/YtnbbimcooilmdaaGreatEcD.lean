/-
  ents.copyValue: what it returns.
-/
import Derived.Test.YtnbbimcooilmdaaGreatEcC
import Derived.Test.YtnbbimcooilmdaaGreatVeK
import Derived.Deep.Cut
namespace Go.Proofs.YtnbbimcooilmdaaGreat
open Go.RowKit Go.Sort

/-- What each slot of the region holds. -/
def cvSp (B g n j : Nat) (x : R7) : Nat → Value → World → Prop
  | 0, v, _ => v = .pointer (some ⟨B, 6, none⟩)
  | 1, v, _ => v = .slice (some ⟨g, 0, none⟩) n n
  | 2, v, _ => v = .int .i64 j
  | 3, v, _ => v = .agg #[.int .i64 x.k, .bool x.b, .int .i64 x.n, .string x.s, .string x.t, .string x.i, .slice x.lo x.ll x.lc]
  | 4, v, _ => v = .agg #[.int .i64 x.k, .bool x.b, .int .i64 x.n, .string x.s, .string x.t, .string x.i, .slice x.lo x.ll x.lc]
  | 5, v, _ => v = .pointer (some ⟨g, j * 7, none⟩)
  | _ + 6, _, _ => True
theorem cvSp_up {B g n j : Nat} {x : R7} {w w' : World} : ∀ i u, cvSp B g n j x i u w → cvSp B g n j x i u w'
  | 0, _, h | 1, _, h | 2, _, h | 3, _, h | 4, _, h | 5, _, h => h
  | _ + 6, _, _ => trivial

/-- What a copy of a list is: none, or in new memory. -/
def Fresh (w' : World) (B : Nat) (ao : Option Addr) (n : Nat) (l : List (List Value)) : Prop :=
  RowG w' ao n l ∧ (l = [] → ao = none) ∧ ∀ ad, ao = some ad → ad.off = 0 ∧ B ≤ ad.block

set_option maxHeartbeats 4000000 in
set_option maxRecDepth 1000000 in
theorem copyValue_of (R : R7) (l : List PV) (w : World) (hll : R.ll = l.length) (hl : l.length ≤ 1048576) (hr : RowV w R.lo (l.map ofP))
    (IH : ∀ p ∈ l, ∀ w', Calls Tryz.prog 37 #[(ofP p).val] w' fun e w'' => e = .returned (ofP p).val ∧ Below w'.heap.size w' w'') :
    Calls Tryz.prog 37 #[R.val] w fun e w' => ∃ ao, e = .returned (.agg #[.int .i64 R.k, .bool R.b, .int .i64 R.n, .string R.s, .string R.t, .string R.i, .slice ao R.ll R.ll]) ∧ Below w.heap.size w w' ∧ Fresh w' w.heap.size ao 7 ((l.map ofP).map R7.cells) := by
  obtain ⟨rk, rb, rn, rs, rt, ri, rlo, n, rlc⟩ := R
  simp only at hll hr
  have b2 := below2 w (.cells #[.int .i64 rk, .bool rb, .int .i64 rn, .string rs, .string rt, .string ri, .slice rlo n rlc] 52) (.cells #[.int .i64 0, .bool false, .int .i64 0, .string ⟨#[]⟩, .string ⟨#[]⟩, .string ⟨#[]⟩, .slice none 0 0] 52)
  have LC := listValue_any (l.map ofP) rlo rlc _ (by simpa using hl) ((rowG_V.1 hr).below b2)
  rw [List.length_map, ← hll] at LC
  obtain ⟨L, hL⟩ : ∃ L, L = (l.map ofP).map R7.cells := ⟨_, rfl⟩
  have hLn : L.length = n := by rw [hL, hll]; simp
  have hL7 : ∀ c ∈ L, c.length = 7 := by rw [hL]; exact lenV _
  have hLx : ∀ j (hj : j < L.length), ∃ p ∈ l, L[j] = (ofP p).cells := fun j hj => by
    subst hL
    simp only [List.getElem_map]
    exact ⟨_, List.getElem_mem _, rfl⟩
  rw [← hL] at LC ⊢
  have HIH := hide IH
  have HLx := hide hLx
  have HL7 := hide hL7
  have HLn := hide hLn
  have hn : n ≤ 1048576 := by omega
  clear hL hll hl hr IH hLx hL7 hLn
  unfold R7.val
  simp only
  go_enter Tryz.func37, Tryz.ntmps37
  go_wp2_with fail
  generalize hw2 : (w.alloc _).alloc _ = w2 at *
  have z2 : w2.heap.size = w.heap.size + 2 := by rw [← hw2]; simp
  have H1 : w2.heap[w.heap.size]? = some (.cells #[.int .i64 rk, .bool rb, .int .i64 rn, .string rs, .string rt, .string ri, .slice rlo n rlc] 52 (0, 0)) := by
    rw [← hw2, Below.heap_alloc _ _ _ (by simp)]
    exact alloc_heap _ _
  have H2 : w2.heap[w.heap.size + 1]? = some (.cells #[.int .i64 0, .bool false, .int .i64 0, .string ⟨#[]⟩, .string ⟨#[]⟩, .string ⟨#[]⟩, .slice none 0 0] 52 (0, 0)) := by
    rw [← hw2]
    have := alloc_heap (w.alloc (.cells #[.int .i64 rk, .bool rb, .int .i64 rn, .string rs, .string rt, .string ri, .slice rlo n rlc] 52)) (.cells #[.int .i64 0, .bool false, .int .i64 0, .string ⟨#[]⟩, .string ⟨#[]⟩, .string ⟨#[]⟩, .slice none 0 0] 52)
    rwa [size1] at this
  clear hw2
  refine LC.mono ?_
  rintro e w3 ⟨ao, rfl, b3, own3⟩
  have H1 := kept_of_below b3 H1
  have H2 := kept_of_below b3 H2
  have b03 := b2.trans (b3.mono b2.size)
  have z3 := b3.size
  have x6 : w3.cell? ⟨w.heap.size, 6, none⟩ = some (.slice rlo n rlc) := by rw [Lib.cell_of_heap H1]; rfl
  have f6 : w3.frozen? ⟨w.heap.size, 6, none⟩ = false := Lib.frozen_of_heap H1 6
  have b04 := b03.setCell (p := ⟨w.heap.size, 6, none⟩) (Nat.le_refl _) (.slice ao n n)
  have G1 := heap_setCell_same w3 w.heap.size 6 _ _ (.slice ao n n) H1
  have G2 := (Below.heap_setCell w3 ⟨w.heap.size, 6, none⟩ (.slice ao n n) (w.heap.size + 1) (by show w.heap.size + 1 ≠ w.heap.size; omega)).trans H2
  have own4 : OwnR (w3.setCell ⟨w.heap.size, 6, none⟩ (.slice ao n n)) w2.heap.size 52 ao L := by
    rcases own3 with h | ⟨h0, g, hg, e, h⟩
    · exact .inl h
    · exact .inr ⟨h0, g, hg, e, (Below.heap_setCell w3 ⟨w.heap.size, 6, none⟩ (.slice ao n n) g (by show g ≠ w.heap.size; omega)).trans h⟩
  have z4 : (w3.setCell ⟨w.heap.size, 6, none⟩ (.slice ao n n)).heap.size = w3.heap.size := by simp
  clear LC own3 H1 H2 b2 b3
  go_wp2
  clear x6 f6
  generalize w3.setCell ⟨w.heap.size, 6, none⟩ (.slice ao n n) = w4 at *
  simp only [List.setIfInBounds_toArray, List.set_cons_succ, List.set_cons_zero] at G1
  have hao : ∀ ad, ao = some ad → ad.off = 0 ∧ w.heap.size + 2 ≤ ad.block := by
    rcases own4 with ⟨_, e⟩ | ⟨_, g, hg, e, _⟩
    · intro ad h; rw [e] at h; cases h
    · intro ad h; rw [e] at h; cases h; exact ⟨rfl, by show _ ≤ g; omega⟩
  have hnil : L = [] → ao = none := fun h0 => by
    rcases own4 with ⟨_, e⟩ | ⟨hne, _⟩
    · exact e
    · exact absurd h0 hne
  have hfz : ∀ ad, ao = some ad → ∀ o, w4.frozen? ⟨ad.block, o, none⟩ = false := by
    rcases own4 with ⟨_, e⟩ | ⟨_, g, _, e, h⟩
    · intro ad h; rw [e] at h; cases h
    · intro ad h' o; rw [e] at h'; cases h'; exact Lib.frozen_of_heap h o
  have hrow := own4.row (unhide HL7)
  have Hao := hide hao
  have Hnil := hide hnil
  have Hfz := hide hfz
  have Hrow := hide hrow
  have HG1 := hide G1
  have HG2 := hide G2
  clear hao hnil hfz hrow own4 G1 G2
  go_loopw [12] (fun iv wr => ∃ j : Nat, j ≤ n ∧ iv = .int .i64 j ∧ Below w.heap.size w wr ∧ w3.heap.size ≤ wr.heap.size ∧ wr.heap[w.heap.size]? = some (.cells #[.int .i64 rk, .bool rb, .int .i64 rn, .string rs, .string rt, .string ri, .slice ao n n] 52 (0, 0)) ∧ wr.heap[w.heap.size + 1]? = some (.cells #[.int .i64 0, .bool false, .int .i64 0, .string ⟨#[]⟩, .string ⟨#[]⟩, .string ⟨#[]⟩, .slice none 0 0] 52 (0, 0)) ∧ RowG wr ao 7 L ∧ (∀ ad, ao = some ad → ∀ o, wr.frozen? ⟨ad.block, o, none⟩ = false)) (fun iv _ => n - (intOf iv).toNat)
  case atStart => exact ⟨0, by omega, rfl, b04, by omega, unhide HG1, unhide HG2, unhide Hrow, unhide Hfz⟩
  case round =>
    obtain ⟨j, hj, rfl, hbw, hsz, h1, h2, hrw, hfr⟩ := hrel
    by_cases hlt : j < n
    · have i1 : (j : Int) < (n : Int) := by omega
      have hjL : j < L.length := by rw [unhide HLn]; exact hlt
      obtain ⟨g, off, rfl, hg, hcell⟩ := hrw j hjL
      obtain ⟨hoff, hgB⟩ := unhide Hao _ rfl
      have hoff : off = 0 := hoff
      subst hoff
      have hgB : w.heap.size + 2 ≤ g := hgB
      obtain ⟨p, hp, hx⟩ := unhide HLx j hjL
      have CV := unhide HIH p hp
      obtain ⟨x, hxe⟩ : ∃ x, x = ofP p := ⟨_, rfl⟩
      rw [← hxe] at hx CV
      rw [hx] at hcell
      have A : At7 wr g (j * 7) x := by
        have h := hcell
        simp only [Nat.zero_add] at h
        exact ⟨h 0 _ rfl, h 1 _ rfl, h 2 _ rfl, h 3 _ rfl, h 4 _ rfl, h 5 _ rfl, h 6 _ rfl⟩
      have Hx := hide hx
      have Hfr := hide (hfr _ rfl)
      have Hrw := hide hrw
      have hge : j * 7 = 0 + j * 7 := by omega
      clear hx hxe hcell hfr hrw hge
      unfold R7.val at CV
      have A5 := at7_new wr x
      have b5 := below1 wr (.cells #[.int .i64 x.k, .bool x.b, .int .i64 x.n, .string x.s, .string x.t, .string x.i, .slice x.lo x.ll x.lc] 52)
      have z5 := size1 wr (.cells #[.int .i64 x.k, .bool x.b, .int .i64 x.n, .string x.s, .string x.t, .string x.i, .slice x.lo x.ll x.lc] 52)
      obtain ⟨a0, a1, a2, a3, a4, a5, a6⟩ := A
      go_upto_region 5 with fail
      have A : At7 wr g (j * 7) x := ⟨a0, a1, a2, a3, a4, a5, a6⟩
      clear a0 a1 a2 a3 a4 a5 a6
      have H1 := kept_of_below b5 h1
      have H2 := kept_of_below b5 h2
      have bw5 := hbw.trans (b5.mono hbw.size)
      generalize wr.alloc _ = w5 at *
      refine wp_specs_put 6 (cvSp w.heap.size g n j x) (fun w' => Below w5.heap.size w5 w') (by kernel_rfl) (by kernel_rfl) (Below.refl _ w5).drew ?_ ?_
      · intro i o hi ho a' w' hR hdep hslot K hK
        have H1' := kept_of_below hR H1
        have c6 : w'.cell? ⟨w.heap.size, 6, none⟩ = some (.slice (some ⟨g, 0, none⟩) n n) := by rw [Lib.cell_of_heap H1']; rfl
        obtain ⟨d0, d1, d2, d3, d4, d5, d6⟩ := A5.below hR (by omega)
        simp only [Nat.zero_add] at d1 d2 d3 d4 d5 d6
        have hc : i = 0 ∨ i = 1 ∨ i = 2 ∨ i = 3 ∨ i = 4 ∨ i = 5 := by omega
        rcases hc with rfl | rfl | rfl | rfl | rfl | rfl
        · cases ho
          have e : a'.tmps.getD 1 undef = .pointer (some ⟨w.heap.size, 0, none⟩) := hslot 1 (by decide)
          unfold Oper.wp
          go_simp
          exact hK _ _ rfl hR (fun _ _ h => h)
        · cases ho
          have e : a'.tmps.getD 17 undef = .pointer (some ⟨w.heap.size, 6, none⟩) := hdep 0 (by kernel_rfl)
          unfold Oper.wp
          go_simp
          exact hK _ _ rfl hR (fun _ _ h => h)
        · cases ho
          have e : a'.tmps.getD 3 undef = .int .i64 j := hslot 3 (by decide)
          unfold Oper.wp
          go_simp
          exact hK _ _ rfl hR (fun _ _ h => h)
        · cases ho
          have e : a'.tmps.getD 4 undef = .pointer (some ⟨wr.heap.size, 0, none⟩) := hslot 4 (by decide)
          unfold Oper.wp
          go_simp
          exact hK _ _ rfl hR (fun _ _ h => h)
        · cases ho
          have e : a'.tmps.getD 20 undef = .agg #[.int .i64 x.k, .bool x.b, .int .i64 x.n, .string x.s, .string x.t, .string x.i, .slice x.lo x.ll x.lc] := hdep 3 (by kernel_rfl)
          unfold Oper.wp
          go_simp
          refine (CV w').mono ?_
          rintro e w6 ⟨rfl, b6⟩
          exact hK _ _ rfl (hR.trans (b6.mono hR.size)) cvSp_up
        · cases ho
          have e1 : a'.tmps.getD 18 undef = .slice (some ⟨g, 0, none⟩) n n := hdep 1 (by kernel_rfl)
          have e2 : a'.tmps.getD 19 undef = .int .i64 j := hdep 2 (by kernel_rfl)
          have k0 : (0 : Int) ≤ (j : Int) := by omega
          unfold Oper.wp
          go_simp
          exact hK _ _ (by simp [cvSp]) hR (fun _ _ h => h)
      · intro v w' hR hall
        have f0 := hall 0 (by decide)
        have f1 := hall 1 (by decide)
        have f2 := hall 2 (by decide)
        have f3 := hall 3 (by decide)
        have f4 := hall 4 (by decide)
        have f5 := hall 5 (by decide)
        unfold cvSp at f0 f1 f2 f3 f4 f5
        have b6 := b5.trans (hR.mono b5.size)
        have bw6 := hbw.trans (b6.mono hbw.size)
        have A6 := A.below b6 hg
        have F6 : ∀ o, w'.frozen? ⟨g, o, none⟩ = false := fun o => (b6.frozen (p := ⟨g, o, none⟩) hg).trans (unhide Hfr o)
        have H1' := kept_of_below b6 h1
        have H2' := kept_of_below b6 h2
        have R6 := RowG.below (unhide Hrw) b6
        have Hset := hide (rowG_set (vs := x.cells) (x := x.cells) (c := 0) (unhide HL7) R6 hjL rfl (fun k hk => absurd hk (Nat.not_lt_zero _)) (fun k => by rw [Nat.zero_add]))
        have Hbs := hide (belowSetCells (b := g) x.cells (j * 7) w' bw6 (by omega))
        have Hh1 := hide ((heap_setCells (b := g) (k := w.heap.size) (by omega) x.cells (j * 7) w').trans H1')
        have Hh2 := hide ((heap_setCells (b := g) (k := w.heap.size + 1) (by omega) x.cells (j * 7) w').trans H2')
        have Hfz6 := hide (fun o => (World.frozen?_setCells g x.cells (j * 7) w' ⟨g, o, none⟩).trans (F6 o))
        have Hsz6 := hide (show w3.heap.size ≤ (w'.setCells g (j * 7) x.cells).heap.size by rw [size_setCells]; exact Nat.le_trans hsz b6.size)
        obtain ⟨a0, a1, a2, a3, a4, a5, a6⟩ := A6
        clear hall CV A A5 R6 H1 H2 H1' H2' h1 h2
        simp only [putAll, dstOf, List.getElem?_cons_zero, List.getElem?_cons_succ, Option.bind_some, List.drop_succ_cons, List.drop_zero, f0, f1, f2, f3, f4, f5]
        clear f0 f1 f2 f3 f4 f5
        simp only [Act.put, List.setIfInBounds_toArray, List.set_cons_succ, List.set_cons_zero]
        go_wp2
        go_roundw
        case rel =>
          refine ⟨j + 1, by omega, by go_num, unhide Hbs, unhide Hsz6, unhide Hh1, unhide Hh2, ?_, ?_⟩
          · have h := unhide Hset
            rw [show L.set j x.cells = L by rw [← unhide Hx]; exact List.set_getElem_self hjL, Nat.add_zero] at h
            exact h
          · intro ad e
            cases e
            exact unhide Hfz6
        case measure =>
          simp only [intOf]
          omega
    · obtain rfl : j = n := by omega
      have i1 : ¬ (j : Int) < (j : Int) := by omega
      have c0 : wr.cell? ⟨w.heap.size, 0, none⟩ = some (.int .i64 rk) := by rw [Lib.cell_of_heap h1]; rfl
      have c1 : wr.cell? ⟨w.heap.size, 1, none⟩ = some (.bool rb) := by rw [Lib.cell_of_heap h1]; rfl
      have c2 : wr.cell? ⟨w.heap.size, 2, none⟩ = some (.int .i64 rn) := by rw [Lib.cell_of_heap h1]; rfl
      have c3 : wr.cell? ⟨w.heap.size, 3, none⟩ = some (.string rs) := by rw [Lib.cell_of_heap h1]; rfl
      have c4 : wr.cell? ⟨w.heap.size, 4, none⟩ = some (.string rt) := by rw [Lib.cell_of_heap h1]; rfl
      have c5 : wr.cell? ⟨w.heap.size, 5, none⟩ = some (.string ri) := by rw [Lib.cell_of_heap h1]; rfl
      have c6 : wr.cell? ⟨w.heap.size, 6, none⟩ = some (.slice ao j j) := by rw [Lib.cell_of_heap h1]; rfl
      have d0 : wr.cell? ⟨w.heap.size + 1, 0, none⟩ = some (.int .i64 0) := by rw [Lib.cell_of_heap h2]; rfl
      have d1 : wr.cell? ⟨w.heap.size + 1, 1, none⟩ = some (.bool false) := by rw [Lib.cell_of_heap h2]; rfl
      have d2 : wr.cell? ⟨w.heap.size + 1, 2, none⟩ = some (.int .i64 0) := by rw [Lib.cell_of_heap h2]; rfl
      have d3 : wr.cell? ⟨w.heap.size + 1, 3, none⟩ = some (.string ⟨#[]⟩) := by rw [Lib.cell_of_heap h2]; rfl
      have d4 : wr.cell? ⟨w.heap.size + 1, 4, none⟩ = some (.string ⟨#[]⟩) := by rw [Lib.cell_of_heap h2]; rfl
      have d5 : wr.cell? ⟨w.heap.size + 1, 5, none⟩ = some (.string ⟨#[]⟩) := by rw [Lib.cell_of_heap h2]; rfl
      have d6 : wr.cell? ⟨w.heap.size + 1, 6, none⟩ = some (.slice none 0 0) := by rw [Lib.cell_of_heap h2]; rfl
      have df : ∀ o, wr.frozen? ⟨w.heap.size + 1, o, none⟩ = false := fun o => Lib.frozen_of_heap h2 o
      have Hrw := hide (hrw.turn (w' := wr.setCells (w.heap.size + 1) 0 [.int .i64 rk, .bool rb, .int .i64 rn, .string rs, .string rt, .string ri, .slice ao j j]) (by rw [size_setCells]; exact Nat.le_refl _) (fun ad e _ _ => heap_setCells (by have := (unhide Hao ad e).2; omega) _ _ _))
      have Hb := hide (belowSetCells (b := w.heap.size + 1) [.int .i64 rk, .bool rb, .int .i64 rn, .string rs, .string rt, .string ri, .slice ao j j] 0 wr hbw (Nat.le_succ _))
      clear h1 h2 hrw hfr
      go_wp2
      exact bodyPost_ret (v := .agg #[.int .i64 rk, .bool rb, .int .i64 rn, .string rs, .string rt, .string ri, .slice ao j j]) (by simp [results, Tryz.results37, go_sem, d0, d1, d2, d3, d4, d5, d6]) rfl ⟨ao, rfl, unhide Hb, unhide Hrw, unhide Hnil, fun ad e => ⟨(unhide Hao ad e).1, by have := (unhide Hao ad e).2; omega⟩⟩

theorem copyValue_plain (p : PV) (w : World) : Calls Tryz.prog 37 #[(ofP p).val] w fun e w' => e = .returned (ofP p).val ∧ Below w.heap.size w w' := by
  refine (copyValue_of (ofP p) [] w (by cases p <;> rfl) (Nat.zero_le _) (fun _ hj => absurd hj (Nat.not_lt_zero _)) (fun _ h => by cases h)).mono ?_
  rintro e w' ⟨ao, rfl, hb, hf⟩
  obtain rfl : ao = none := hf.2.1 rfl
  exact ⟨by cases p <;> rfl, hb⟩
theorem copyValue_any (G : GV) (R : R7) (w : World) (h : IsG w G R) (hl : G.len ≤ 1048576) :
    Calls Tryz.prog 37 #[R.val] w fun e w' => ∃ R' : R7, e = .returned R'.val ∧ Below w.heap.size w w' ∧ IsGP w' (fun b => w.heap.size ≤ b) G R' := by
  cases G with
  | pl p =>
    obtain rfl : R = ofP p := h
    refine (copyValue_plain p w).mono ?_
    rintro e w' ⟨rfl, hb⟩
    exact ⟨_, rfl, hb, rfl, fun ad e => by cases p <;> cases e⟩
  | set l =>
    obtain ⟨ao, c, rfl, hr, _⟩ := h
    refine (copyValue_of (setR ao l.length c) l w rfl hl hr (fun p _ w' => copyValue_plain p w')).mono ?_
    rintro e w' ⟨ao', rfl, hb, hf⟩
    refine ⟨setR ao' l.length l.length, rfl, hb, ⟨ao', l.length, rfl, rowG_V.2 hf.1, fun ad e => (hf.2.2 ad e).1⟩, fun ad e _ => (hf.2.2 ad e).2⟩
end Go.Proofs.YtnbbimcooilmdaaGreat
