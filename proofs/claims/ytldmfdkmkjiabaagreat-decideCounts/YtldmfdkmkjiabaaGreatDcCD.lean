/-
  Package decide: count.
  Package decide: copyNames, All.
-/
import Derived.Test.YtldmfdkmkjiabaaGreatDcPB
import Derived.Test.YtldmfdkmkjiabaaGreatVeOP
namespace Go.Proofs.YtldmfdkmkjiabaaGreat
open Go.RowKit Go.Sort

theorem CntS.kT {w wr w6 : World} {T : Nat} {D : EvD} {l : List (ByteArray × PolD)} {j : Nat} {V : Nat → Value} (h : CntS w wr T D l j V) {i : Nat} (hi : i < 3) (hg : wr.grownBy w6 (V i).ownBlock) : w6.heap[T]? = some (.cells #[V 0, V 1, V 2] 89 (0, 0)) :=
  (hg.block T (Array.getElem?_eq_some_iff.1 h.tly).1 (fun e => own_notS (show 9 ≠ 89 by decide) (h.own i hi) h.tly e.symm)).trans h.tly
theorem CntS.other {w wr w6 : World} {T K : Nat} {D : EvD} {l : List (ByteArray × PolD)} {j : Nat} {V : Nat → Value} (h : CntS w wr T D l j V) {i : Nat} (hi : i < 3) (hg : wr.grownBy w6 (V i).ownBlock) {cs : Array Value} {KT : TypeId} (hKT : 9 ≠ KT) (hK : wr.heap[K]? = some (.cells cs KT (0, 0))) (hne : K ≠ T) (v : Value) : (w6.setCell ⟨T, i, none⟩ v).heap[K]? = some (.cells cs KT (0, 0)) := by
  rw [Below.heap_setCell w6 ⟨T, i, none⟩ v K hne]
  exact (hg.block K (Array.getElem?_eq_some_iff.1 hK).1 (fun e => own_notS hKT (h.own i hi) hK e.symm)).trans hK
theorem cls_err {D : EvD} {p : PolD} {e : Int} (h : dcOne D p = .inr e) : clsD D p = 2 := by unfold clsD; rw [h]
theorem cls_no {D : EvD} {p : PolD} (h : dcOne D p = .inl false) : clsD D p = 3 := by unfold clsD; rw [h]
theorem cls_forbid {D : EvD} {p : PolD} (h : dcOne D p = .inl true) (hf : p.f = true) : clsD D p = 1 := by unfold clsD; rw [h]; simp [hf]
theorem cls_permit {D : EvD} {p : PolD} (h : dcOne D p = .inl true) (hf : p.f = false) : clsD D p = 0 := by unfold clsD; rw [h]; simp [hf]
theorem own_rowSl {w : World} {B n c : Nat} {a : Option Addr} {l : List ByteArray} (h : w.ownsRow B 9 1 (.slice a n c) l.length (strsV l)) : RowSt w a l := by
  obtain ⟨ao, cap, hv, hr, _⟩ := own_rowSt h
  injection hv with h1
  subst h1
  exact hr
/-- What is counted, as it is returned. -/
def RetTl (D : EvD) (l : List (ByteArray × PolD)) (e : Ending) (w' : World) : Prop := ∃ a0 c0 a1 c1 a2 c2,
  e = .returned (.agg #[.slice a0 (tlyD D l 0).length c0, .slice a1 (tlyD D l 1).length c1, .slice a2 (tlyD D l 2).length c2]) ∧ RowSt w' a0 (tlyD D l 0) ∧ RowSt w' a1 (tlyD D l 1) ∧ RowSt w' a2 (tlyD D l 2)
theorem infoStr : (Tryz.prog.info? 9).map (fun i => (i.zero, i.size, i.bytes)) = some (some (.string ⟨#[]⟩), 1, 16) := by kernel_rfl

set_option maxHeartbeats 16000000 in
set_option maxRecDepth 1000000 in
theorem dCount_any (glo : Option Addr) (gs : List E4) (N c : Nat) (D : EvD) (l : List (ByteArray × PolD)) (lo : Option Addr) (n cap : Nat) (w : World) (hN : N = gs.length) (hE : EW w glo gs D) (hn : n = l.length) (hn1 : n ≤ 100000) (hr : RowNm w lo l) (hok : okNm l) :
    Calls Tryz.prog 27 #[.slice glo N c, .agg #[.string D.p.t, .string D.p.i, .string D.a.t, .string D.a.i, .string D.r.t, .string D.r.i], .slice lo n cap] w fun e w' => RetTl D l e w' ∧ Below w.heap.size w w' := by
  obtain ⟨iS, hiS, hz0, hz1, hz2⟩ := info_partsE infoStr
  have HN := hide hn
  have HNG := hide hN
  have HE := hide hE
  have HR := hide hr
  have HK := hide hok
  obtain ⟨b3, z3, k1, k2, k3⟩ := ev3 w (.cells #[.string D.p.t, .string D.p.i, .string D.a.t, .string D.a.i, .string D.r.t, .string D.r.i] 30) (.cells #[.slice none 0 0, .slice none 0 0, .slice none 0 0] 89) (.cells #[.slice none 0 0, .slice none 0 0, .slice none 0 0] 89)
  clear hE hN hn hr hok z3
  go_enter Tryz.func27, Tryz.ntmps27
  go_upto_region 2 with fail
  generalize ((w.alloc _).alloc _).alloc _ = w3 at *
  have S0 : CntS w w3 (w.heap.size + 2) D l 0 (fun _ => .slice none 0 0) := ⟨b3, k3, fun i _ => by rw [List.take_zero]; exact World.ownsRow_nil _ _ _ _, fun i k _ _ _ g e => by cases e⟩
  have HS0 := hide S0
  clear S0 k3
  go_wp2
  go_loopw [14] (fun iv wr => ∃ (j : Nat) (V : Nat → Value), iv = .int .i64 j ∧ j ≤ n ∧ CntS w wr (w.heap.size + 2) D l j V ∧ wr.heap[w.heap.size]? = some (.cells #[.string D.p.t, .string D.p.i, .string D.a.t, .string D.a.i, .string D.r.t, .string D.r.i] 30 (0, 0)) ∧ wr.heap[w.heap.size + 1]? = some (.cells #[.slice none 0 0, .slice none 0 0, .slice none 0 0] 89 (0, 0))) (fun iv _ => n - (intOf iv).toNat)
  case atStart => exact ⟨0, _, rfl, by omega, unhide HS0, k1, k2⟩
  case round =>
    clear HS0 k1 k2 b3
    obtain ⟨j, V, rfl, hj, hS, hQ, hZ⟩ := hrel
    have HS := hide hS
    have bw := hS.below
    clear hS
    by_cases hlt : j < n
    · have i1 : (j : Int) < (n : Int) := by omega
      have hjl : j < l.length := by rw [← unhide HN]; exact hlt
      obtain ⟨b, off, so, sc, rfl, hb, h12, hcd⟩ := unhide HR j hjl
      have h12 := h12.below bw hb
      obtain ⟨hok1, hok2⟩ := unhide HK l[j] (List.getElem_mem hjl)
      have HX := hide (show ∀ x, x = l[j] → clsD D l[j].2 = clsD D x.2 ∧ l[j].1 = x.1 from fun x hx => by subst hx; exact ⟨rfl, rfl⟩)
      obtain ⟨x, hx⟩ : ∃ x, x = l[j] := ⟨_, rfl⟩
      have HX := hide (unhide HX x hx)
      have HNL := hide (show ∀ i, (tlyD D (l.take j) i).length ≤ 100000 from fun i => by have := tlyD_len D (l.take j) i; rw [List.length_take] at this; omega)
      rw [← hx] at h12 hcd hok1 hok2
      clear hx
      obtain ⟨nm, p⟩ := x
      dsimp only at h12 hcd hok1 hok2 HX
      have b4 := ev1 wr (.cells #[.string nm, .bool p.f, .int .i64 p.p.k, .string p.p.u.t, .string p.p.u.i, .int .i64 p.a.k, .string p.a.u.t, .string p.a.u.i, .int .i64 p.r.k, .string p.r.u.t, .string p.r.u.i, .slice so p.cs.length sc] 63)
      have h4 := alloc_heap wr (.cells #[.string nm, .bool p.f, .int .i64 p.p.k, .string p.p.u.t, .string p.p.u.i, .int .i64 p.a.k, .string p.a.u.t, .string p.a.u.i, .int .i64 p.r.k, .string p.r.u.t, .string p.r.u.i, .slice so p.cs.length sc] 63)
      have B4 := bw.trans (b4.mono bw.size)
      have CO := dOne_any glo gs N c D p so p.cs.length sc _ (unhide HNG) ((unhide HE).below B4) rfl hok1 (hcd.below B4) hok2
      have HS4 := hide ((unhide HS).on b4)
      have Q4 := kept_of_below b4 hQ
      have Z4 := kept_of_below b4 hZ
      obtain ⟨ln, hln⟩ : ∃ ln, ln = p.cs.length := ⟨_, rfl⟩
      rw [← hln] at h12 b4 h4 B4 CO HS4 Q4 Z4
      clear hln hcd hok1 hok2 hQ hZ HS
      obtain ⟨a0, a1, a2, a3, a4, a5, a6, a7, a8, a9, a10, a11⟩ := h12
      go_upto_region 5 with fail
      clear a0 a1 a2 a3 a4 a5 a6 a7 a8 a9 a10 a11
      generalize wr.alloc _ = w4 at *
      have cr0 : w4.cell? ⟨w.heap.size, 0, none⟩ = some (.string D.p.t) := by rw [Lib.cell_of_heap Q4]; rfl
      have cr1 : w4.cell? ⟨w.heap.size, 1, none⟩ = some (.string D.p.i) := by rw [Lib.cell_of_heap Q4]; rfl
      have cr2 : w4.cell? ⟨w.heap.size, 2, none⟩ = some (.string D.a.t) := by rw [Lib.cell_of_heap Q4]; rfl
      have cr3 : w4.cell? ⟨w.heap.size, 3, none⟩ = some (.string D.a.i) := by rw [Lib.cell_of_heap Q4]; rfl
      have cr4 : w4.cell? ⟨w.heap.size, 4, none⟩ = some (.string D.r.t) := by rw [Lib.cell_of_heap Q4]; rfl
      have cr5 : w4.cell? ⟨w.heap.size, 5, none⟩ = some (.string D.r.i) := by rw [Lib.cell_of_heap Q4]; rfl
      have cn0 : w4.cell? ⟨wr.heap.size, 0, none⟩ = some (.string nm) := by rw [Lib.cell_of_heap h4]; rfl
      have cn1 : w4.cell? ⟨wr.heap.size, 1, none⟩ = some (.bool p.f) := by rw [Lib.cell_of_heap h4]; rfl
      have cn2 : w4.cell? ⟨wr.heap.size, 2, none⟩ = some (.int .i64 p.p.k) := by rw [Lib.cell_of_heap h4]; rfl
      have cn3 : w4.cell? ⟨wr.heap.size, 3, none⟩ = some (.string p.p.u.t) := by rw [Lib.cell_of_heap h4]; rfl
      have cn4 : w4.cell? ⟨wr.heap.size, 4, none⟩ = some (.string p.p.u.i) := by rw [Lib.cell_of_heap h4]; rfl
      have cn5 : w4.cell? ⟨wr.heap.size, 5, none⟩ = some (.int .i64 p.a.k) := by rw [Lib.cell_of_heap h4]; rfl
      have cn6 : w4.cell? ⟨wr.heap.size, 6, none⟩ = some (.string p.a.u.t) := by rw [Lib.cell_of_heap h4]; rfl
      have cn7 : w4.cell? ⟨wr.heap.size, 7, none⟩ = some (.string p.a.u.i) := by rw [Lib.cell_of_heap h4]; rfl
      have cn8 : w4.cell? ⟨wr.heap.size, 8, none⟩ = some (.int .i64 p.r.k) := by rw [Lib.cell_of_heap h4]; rfl
      have cn9 : w4.cell? ⟨wr.heap.size, 9, none⟩ = some (.string p.r.u.t) := by rw [Lib.cell_of_heap h4]; rfl
      have cn10 : w4.cell? ⟨wr.heap.size, 10, none⟩ = some (.string p.r.u.i) := by rw [Lib.cell_of_heap h4]; rfl
      have cn11 : w4.cell? ⟨wr.heap.size, 11, none⟩ = some (.slice so ln sc) := by rw [Lib.cell_of_heap h4]; rfl
      go_wp2_with fail
      refine CO.mono ?_
      clear CO
      rintro e w5 ⟨⟨hb5, kk, rfl, hrb⟩, b5⟩
      clear cr0 cr1 cr2 cr3 cr4 cr5 cn0 cn1 cn2 cn3 cn4 cn5 cn6 cn7 cn8 cn9 cn10 cn11
      have HS5 := hide ((unhide HS4).on b5)
      have Q5 := hide (kept_of_below b5 Q4)
      have Z5 := hide (kept_of_below b5 Z4)
      have h5 := kept_of_below b5 h4
      have n0 : w5.cell? ⟨wr.heap.size, 0, none⟩ = some (.string nm) := by rw [Lib.cell_of_heap h5]; rfl
      have n1 : w5.cell? ⟨wr.heap.size, 1, none⟩ = some (.bool p.f) := by rw [Lib.cell_of_heap h5]; rfl
      have B5 := B4.trans (b5.mono B4.size)
      have hT5 : w.heap.size + 2 < w5.heap.size := (Array.getElem?_eq_some_iff.1 (unhide HS5).tly).1
      clear HS4 Q4 Z4 h4 h5 b4 b5
      obtain ⟨r, hr⟩ : ∃ r, r = dcOne D p := ⟨_, rfl⟩
      rw [← hr] at hrb
      have HRC := hide hr.symm
      clear hr
      cases r with
      | inr ee =>
        obtain ⟨rfl, hne, rfl⟩ : kk = ee ∧ ee ≠ 0 ∧ hb5 = false := hrb
        have gk : (kk != 0) = true := by simpa using hne
        clear hne
        have n0' := n0
        have b6 := ev1 w5 (.cells #[.string nm] 9)
        have h6 := alloc_heap w5 (.cells #[.string nm] 9)
        have HCL := hide (show clsD D l[j].2 = 2 from (unhide HX).1.trans (cls_err (unhide HRC)))
        have HS6 := hide ((unhide HS5).on b6)
        have Q6 := hide (kept_of_below b6 (unhide Q5))
        have Z6 := hide (kept_of_below b6 (unhide Z5))
        have hc := (unhide HS5).cell 2 (by decide)
        have Hown6 := hide ((unhide HS6).own 2 (by decide))
        clear HS5 Q5 Z5
        go_wp2_with (at_builtin; refine wpList_append_own_at _ rfl _ _ 60 rfl w.heap.size 9 iS _ 1 16 Tryz.underlying60 hiS hz0 hz1 hz2 rfl (by decide) _ _ _ rfl (unhide Hown6) ⟨w5.heap.size, 0, none⟩ 1 1 [.string nm] rfl rfl ?p1 ?p2 ?p3 ?p4 ?p5 ?_)
        case p1 =>
          intro c u hu
          rw [Addr.add_lit, Nat.zero_add, Lib.cell_of_heap h6]
          simpa using hu
        case p2 =>
          intro u hu
          simp only [List.mem_cons, List.not_mem_nil, or_false] at hu
          subst hu
          rfl
        case p3 => have := unhide HNL 2; unfold maxLen; omega
        case p4 => have := unhide HNL 2; omega
        case p5 => have := (unhide HS6).below.size; exact this
        intro v8 w8 hown8 hgrow _ hat
        have HO8 := hide hown8
        have HG8 := hide hgrow
        have HA8 := hide hat
        have hT8 := (unhide HS6).kT (i := 2) (by decide) hgrow
        have e8 : w8.cell? ⟨w.heap.size + 2, 2, none⟩ = some (V 2) := by rw [Lib.cell_of_heap hT8]; rfl
        have f8 : w8.frozen? ⟨w.heap.size + 2, 2, none⟩ = false := Lib.frozen_of_heap hT8 2
        clear hown8 hgrow hat hT8 h6 Hown6 n0 n0' n1 hc b6
        obtain ⟨ao8, n8, c8, hv8⟩ : ∃ ao n c, v8 = .slice ao n c := by
          obtain ⟨a, c, h, _⟩ := own_rowSt (l := tlyD D (l.take j) 2 ++ [nm]) (v := v8) (w := w8) (B := w.heap.size) (by
            rw [List.length_append, show strsV (tlyD D (l.take j) 2 ++ [nm]) = strsV (tlyD D (l.take j) 2) ++ [.string nm] by unfold strsV; rw [List.map_append]; rfl]
            exact unhide HO8)
          exact ⟨a, _, c, h⟩
        subst hv8
        go_wp2
        go_roundw
        case rel =>
          have hS6 := unhide HS6
          have hg := unhide HG8
          refine ⟨j + 1, updV V 2 (.slice ao8 n8 c8), by go_num, by omega, ?_, ?_, ?_⟩
          · exact hS6.next 2 (by decide) (by omega) hjl (unhide HCL) (by rw [(unhide HX).2]; exact unhide HO8) hg ((unhide HA8).imp id fun e => e.trans (by simp))
          · exact hS6.other (by decide) hg (by decide) (unhide Q6) (by omega) _
          · exact hS6.other (by decide) hg (by decide) (unhide Z6) (by omega) _
        case measure =>
          simp only [intOf]
          omega
      | inl rb =>
        obtain ⟨rfl, rfl⟩ : kk = 0 ∧ hb5 = rb := hrb
        cases hb5 with
        | false =>
          have HCL := hide (show clsD D l[j].2 = 3 from (unhide HX).1.trans (cls_no (unhide HRC)))
          go_wp2
          go_roundw
          case rel => exact ⟨j + 1, V, by go_num, by omega, (unhide HS5).skip hjl (unhide HCL), unhide Q5, unhide Z5⟩
          case measure =>
            simp only [intOf]
            omega
        | true =>
          cases hf : p.f with
          | true =>
            rw [hf] at n1
            have HF := hide hf
            clear hf
            have n0' := n0
            have b6 := ev1 w5 (.cells #[.string nm] 9)
            have h6 := alloc_heap w5 (.cells #[.string nm] 9)
            have HCL := hide (show clsD D l[j].2 = 1 from (unhide HX).1.trans (cls_forbid (unhide HRC) (unhide HF)))
            have HS6 := hide ((unhide HS5).on b6)
            have Q6 := hide (kept_of_below b6 (unhide Q5))
            have Z6 := hide (kept_of_below b6 (unhide Z5))
            have hc := (unhide HS5).cell 1 (by decide)
            have Hown6 := hide ((unhide HS6).own 1 (by decide))
            clear HS5 Q5 Z5
            go_wp2_with (at_builtin; refine wpList_append_own_at _ rfl _ _ 60 rfl w.heap.size 9 iS _ 1 16 Tryz.underlying60 hiS hz0 hz1 hz2 rfl (by decide) _ _ _ rfl (unhide Hown6) ⟨w5.heap.size, 0, none⟩ 1 1 [.string nm] rfl rfl ?p1 ?p2 ?p3 ?p4 ?p5 ?_)
            case p1 =>
              intro c u hu
              rw [Addr.add_lit, Nat.zero_add, Lib.cell_of_heap h6]
              simpa using hu
            case p2 =>
              intro u hu
              simp only [List.mem_cons, List.not_mem_nil, or_false] at hu
              subst hu
              rfl
            case p3 => have := unhide HNL 1; unfold maxLen; omega
            case p4 => have := unhide HNL 1; omega
            case p5 => have := (unhide HS6).below.size; exact this
            intro v8 w8 hown8 hgrow _ hat
            have HO8 := hide hown8
            have HG8 := hide hgrow
            have HA8 := hide hat
            have hT8 := (unhide HS6).kT (i := 1) (by decide) hgrow
            have e8 : w8.cell? ⟨w.heap.size + 2, 1, none⟩ = some (V 1) := by rw [Lib.cell_of_heap hT8]; rfl
            have f8 : w8.frozen? ⟨w.heap.size + 2, 1, none⟩ = false := Lib.frozen_of_heap hT8 1
            clear hown8 hgrow hat hT8 h6 Hown6 n0 n0' n1 hc b6
            obtain ⟨ao8, n8, c8, hv8⟩ : ∃ ao n c, v8 = .slice ao n c := by
              obtain ⟨a, c, h, _⟩ := own_rowSt (l := tlyD D (l.take j) 1 ++ [nm]) (v := v8) (w := w8) (B := w.heap.size) (by
                rw [List.length_append, show strsV (tlyD D (l.take j) 1 ++ [nm]) = strsV (tlyD D (l.take j) 1) ++ [.string nm] by unfold strsV; rw [List.map_append]; rfl]
                exact unhide HO8)
              exact ⟨a, _, c, h⟩
            subst hv8
            go_wp2
            go_roundw
            case rel =>
              have hS6 := unhide HS6
              have hg := unhide HG8
              refine ⟨j + 1, updV V 1 (.slice ao8 n8 c8), by go_num, by omega, ?_, ?_, ?_⟩
              · exact hS6.next 1 (by decide) (by omega) hjl (unhide HCL) (by rw [(unhide HX).2]; exact unhide HO8) hg ((unhide HA8).imp id fun e => e.trans (by simp))
              · exact hS6.other (by decide) hg (by decide) (unhide Q6) (by omega) _
              · exact hS6.other (by decide) hg (by decide) (unhide Z6) (by omega) _
            case measure =>
              simp only [intOf]
              omega
          | false =>
            rw [hf] at n1
            have HF := hide hf
            clear hf
            have n0' := n0
            have b6 := ev1 w5 (.cells #[.string nm] 9)
            have h6 := alloc_heap w5 (.cells #[.string nm] 9)
            have HCL := hide (show clsD D l[j].2 = 0 from (unhide HX).1.trans (cls_permit (unhide HRC) (unhide HF)))
            have HS6 := hide ((unhide HS5).on b6)
            have Q6 := hide (kept_of_below b6 (unhide Q5))
            have Z6 := hide (kept_of_below b6 (unhide Z5))
            have hc := (unhide HS5).cell 0 (by decide)
            have Hown6 := hide ((unhide HS6).own 0 (by decide))
            clear HS5 Q5 Z5
            go_wp2_with (at_builtin; refine wpList_append_own_at _ rfl _ _ 60 rfl w.heap.size 9 iS _ 1 16 Tryz.underlying60 hiS hz0 hz1 hz2 rfl (by decide) _ _ _ rfl (unhide Hown6) ⟨w5.heap.size, 0, none⟩ 1 1 [.string nm] rfl rfl ?p1 ?p2 ?p3 ?p4 ?p5 ?_)
            case p1 =>
              intro c u hu
              rw [Addr.add_lit, Nat.zero_add, Lib.cell_of_heap h6]
              simpa using hu
            case p2 =>
              intro u hu
              simp only [List.mem_cons, List.not_mem_nil, or_false] at hu
              subst hu
              rfl
            case p3 => have := unhide HNL 0; unfold maxLen; omega
            case p4 => have := unhide HNL 0; omega
            case p5 => have := (unhide HS6).below.size; exact this
            intro v8 w8 hown8 hgrow _ hat
            have HO8 := hide hown8
            have HG8 := hide hgrow
            have HA8 := hide hat
            have hT8 := (unhide HS6).kT (i := 0) (by decide) hgrow
            have e8 : w8.cell? ⟨w.heap.size + 2, 0, none⟩ = some (V 0) := by rw [Lib.cell_of_heap hT8]; rfl
            have f8 : w8.frozen? ⟨w.heap.size + 2, 0, none⟩ = false := Lib.frozen_of_heap hT8 0
            clear hown8 hgrow hat hT8 h6 Hown6 n0 n0' n1 hc b6
            obtain ⟨ao8, n8, c8, hv8⟩ : ∃ ao n c, v8 = .slice ao n c := by
              obtain ⟨a, c, h, _⟩ := own_rowSt (l := tlyD D (l.take j) 0 ++ [nm]) (v := v8) (w := w8) (B := w.heap.size) (by
                rw [List.length_append, show strsV (tlyD D (l.take j) 0 ++ [nm]) = strsV (tlyD D (l.take j) 0) ++ [.string nm] by unfold strsV; rw [List.map_append]; rfl]
                exact unhide HO8)
              exact ⟨a, _, c, h⟩
            subst hv8
            go_wp2
            go_roundw
            case rel =>
              have hS6 := unhide HS6
              have hg := unhide HG8
              refine ⟨j + 1, updV V 0 (.slice ao8 n8 c8), by go_num, by omega, ?_, ?_, ?_⟩
              · exact hS6.next 0 (by decide) (by omega) hjl (unhide HCL) (by rw [(unhide HX).2]; exact unhide HO8) hg ((unhide HA8).imp id fun e => e.trans (by simp))
              · exact hS6.other (by decide) hg (by decide) (unhide Q6) (by omega) _
              · exact hS6.other (by decide) hg (by decide) (unhide Z6) (by omega) _
            case measure =>
              simp only [intOf]
              omega
    · obtain rfl : j = n := by omega
      have i1 : ¬ (j : Int) < (j : Int) := by omega
      have hS := unhide HS
      have hT := hS.tly
      have o0 := hS.own 0 (by decide)
      have o1 := hS.own 1 (by decide)
      have o2 := hS.own 2 (by decide)
      rw [unhide HN, List.take_length] at o0 o1 o2
      have q0 := own_notS (show 9 ≠ 89 by decide) o0 hZ
      have q1 := own_notS (show 9 ≠ 89 by decide) o1 hZ
      have q2 := own_notS (show 9 ≠ 89 by decide) o2 hZ
      obtain ⟨a0, c0, e0, _⟩ := own_rowSt o0
      obtain ⟨a1, c1, e1, _⟩ := own_rowSt o1
      obtain ⟨a2, c2, e2, _⟩ := own_rowSt o2
      rw [e0, e1, e2] at hT
      rw [e0] at o0 q0
      rw [e1] at o1 q1
      rw [e2] at o2 q2
      have d0 : wr.cell? ⟨w.heap.size + 2, 0, none⟩ = some (.slice a0 (tlyD D l 0).length c0) := by rw [Lib.cell_of_heap hT]; rfl
      have d1 : wr.cell? ⟨w.heap.size + 2, 1, none⟩ = some (.slice a1 (tlyD D l 1).length c1) := by rw [Lib.cell_of_heap hT]; rfl
      have d2 : wr.cell? ⟨w.heap.size + 2, 2, none⟩ = some (.slice a2 (tlyD D l 2).length c2) := by rw [Lib.cell_of_heap hT]; rfl
      have HZ := hide hZ
      have y0 : wr.cell? ⟨w.heap.size + 1, 0, none⟩ = some (.slice none 0 0) := by rw [Lib.cell_of_heap hZ]; rfl
      have y1 : wr.cell? ⟨w.heap.size + 1, 1, none⟩ = some (.slice none 0 0) := by rw [Lib.cell_of_heap hZ]; rfl
      have y2 : wr.cell? ⟨w.heap.size + 1, 2, none⟩ = some (.slice none 0 0) := by rw [Lib.cell_of_heap hZ]; rfl
      have g0 : wr.frozen? ⟨w.heap.size + 1, 0, none⟩ = false := Lib.frozen_of_heap hZ 0
      have g1 : wr.frozen? ⟨w.heap.size + 1, 1, none⟩ = false := Lib.frozen_of_heap hZ 1
      have g2 : wr.frozen? ⟨w.heap.size + 1, 2, none⟩ = false := Lib.frozen_of_heap hZ 2
      obtain ⟨l0, hl0⟩ : ∃ x, x = (tlyD D l 0).length := ⟨_, rfl⟩
      obtain ⟨l1, hl1⟩ : ∃ x, x = (tlyD D l 1).length := ⟨_, rfl⟩
      obtain ⟨l2, hl2⟩ : ∃ x, x = (tlyD D l 2).length := ⟨_, rfl⟩
      rw [← hl0] at d0
      rw [← hl1] at d1
      rw [← hl2] at d2
      have hkb : ∀ b, b ≠ w.heap.size + 1 → (wr.setCells (w.heap.size + 1) 0 [.slice a0 l0 c0, .slice a1 l1 c1, .slice a2 l2 c2]).heap[b]? = wr.heap[b]? := fun b hb => heap_setCells hb _ _ _
      have Hb := hide (belowSetCells (b := w.heap.size + 1) [.slice a0 l0 c0, .slice a1 l1 c1, .slice a2 l2 c2] 0 wr bw (Nat.le_succ _))
      have fin : RetTl D l (.returned (.agg #[.slice a0 l0 c0, .slice a1 l1 c1, .slice a2 l2 c2])) (wr.setCells (w.heap.size + 1) 0 [.slice a0 l0 c0, .slice a1 l1 c1, .slice a2 l2 c2]) := by
        refine ⟨a0, c0, a1, c1, a2, c2, by rw [hl0, hl1, hl2], ?_, ?_, ?_⟩
        · exact own_rowSl (own_keptS o0 fun g e _ => hkb g fun e2 => q0 (e2 ▸ e))
        · exact own_rowSl (own_keptS o1 fun g e _ => hkb g fun e2 => q1 (e2 ▸ e))
        · exact own_rowSl (own_keptS o2 fun g e _ => hkb g fun e2 => q2 (e2 ▸ e))
      have Hfin := hide fin
      clear hT hZ hQ o0 o1 o2 q0 q1 q2 e0 e1 e2 HS hS hl0 hl1 hl2 fin hkb
      go_wp2
      exact bodyPost_ret (v := .agg #[.slice a0 l0 c0, .slice a1 l1 c1, .slice a2 l2 c2]) (by simp [results, Tryz.results27, go_sem, y0, y1, y2]) rfl ⟨unhide Hfin, unhide Hb⟩
end Go.Proofs.YtldmfdkmkjiabaaGreat

namespace Go.Proofs.YtldmfdkmkjiabaaGreat
open Go.RowKit Go.Sort

theorem szStrD : (Tryz.prog.info? 9).map (·.size) = some 1 := by kernel_rfl
theorem inStrD : (Tryz.prog.info? 9).map (fun i => (i.zero.isSome, i.size, i.bytes)) = some (true, 1, 16) := by kernel_rfl
theorem one_strs (l : List ByteArray) : ∀ v ∈ (l.map fun s => [Value.string s]).flatten, v.oneCell' = true := by
  intro v hv
  rw [flat_one] at hv
  obtain ⟨s, _, rfl⟩ := List.mem_map.1 hv
  rfl
theorem len_strs (l : List ByteArray) : ∀ c ∈ l.map fun s => [Value.string s], c.length = 1 := by
  intro c hc
  obtain ⟨s, _, rfl⟩ := List.mem_map.1 hc
  rfl
theorem RowSt.other {w w' : World} {ao : Option Addr} {l : List ByteArray} (h : RowSt w ao l) (hs : w.heap.size ≤ w'.heap.size) (hk : ∀ ad, ao = some ad → ad.block < w.heap.size → w'.heap[ad.block]? = w.heap[ad.block]?) : RowSt w' ao l := by
  intro j hj
  obtain ⟨b, off, e, hlt, hc⟩ := h j hj
  refine ⟨b, off, e, by omega, fun c v hv => ?_⟩
  rw [← hc c v hv]
  unfold World.cell?
  rw [show (⟨b, off + j * 1 + c, none⟩ : Addr).block = b from rfl, hk _ e hlt]
/-- Where a row of names begins: new, and none if there is none. -/
def CopyPost (w : World) (l : List ByteArray) (e : Ending) (w' : World) : Prop := Below w.heap.size w w' ∧ ∃ ao' c, e = .returned (.slice ao' l.length c) ∧ RowSt w' ao' l ∧ ∀ ad, ao' = some ad → w.heap.size ≤ ad.block

set_option maxHeartbeats 4000000 in
set_option maxRecDepth 1000000 in
theorem copyNm_any (l : List ByteArray) (ao : Option Addr) (cap : Nat) (w : World) (hl : l.length ≤ 1048576) (hr : RowSt w ao l) :
    Calls Tryz.prog 28 #[.slice ao l.length cap] w (CopyPost w l) := by
  obtain ⟨L, hL⟩ : ∃ L : Nat, L = l.length := ⟨_, rfl⟩
  by_cases h0 : l.length = 0
  · obtain rfl : l = [] := List.eq_nil_of_length_eq_zero h0
    clear hr hl h0 hL
    simp only [List.length_nil]
    go_enter Tryz.func28, Tryz.ntmps28
    go_wp2
    go_ret
    exact ⟨Below.refl _ _, none, 0, rfl, rowG_nil _ _ _, fun _ h => by cases h⟩
  · unfold CopyPost
    rw [← hL] at hl ⊢
    obtain ⟨rest, hre, hmk⟩ := make_rowN (P := Tryz.prog) 60 9 1 16 L (L : Int) Tryz.underlying60 inStrD rfl (by omega) (by decide)
    have b1 := ev1 w (.cells rest.toArray 9)
    have h1 := alloc_heap w (.cells rest.toArray 9)
    obtain ⟨w2, hcp, h2, hb2⟩ : ∃ w2, (∀ ty, (Builtin.copy_ #[60, 60] ty #[.slice (some ⟨w.heap.size, 0, none⟩) L L, .slice ao L cap]).run Tryz.prog (w.alloc (.cells rest.toArray 9)) = .ok (.int .i64 L) w2) ∧ w2.heap[w.heap.size]? = some (.cells (l.map fun s => [Value.string s]).flatten.toArray 9 (0, 0)) ∧ Below w.heap.size w w2 := by
      have := fun ty => copy_rowT (P := Tryz.prog) (w.alloc (.cells rest.toArray 9)) w.heap.size 1 (l.map fun s => [Value.string s]) ao cap L rest 60 60 ty 9 9 Tryz.underlying60 szStrD (by rw [hL]; simp) (by simp; omega) (len_strs l) (one_strs l) hre h1 (RowG.below hr b1)
      obtain ⟨w2, hcp, h2, k2, _⟩ := this 3
      refine ⟨w2, fun ty => ?_, h2, k2 _ _ b1 (Nat.le_refl _)⟩
      have e : (Builtin.copy_ #[60, 60] ty #[.slice (some ⟨w.heap.size, 0, none⟩) L L, .slice ao L cap]).run Tryz.prog (w.alloc (.cells rest.toArray 9)) = (Builtin.copy_ #[60, 60] 3 #[.slice (some ⟨w.heap.size, 0, none⟩) L L, .slice ao L cap]).run Tryz.prog (w.alloc (.cells rest.toArray 9)) := rfl
      rw [e]
      exact hcp
    have hcp := hcp 3
    have HROW := hide (show RowSt w2 (some ⟨w.heap.size, 0, none⟩) l from row_of_flat (len_strs l) h2)
    have i0 : ¬ (L : Int) = 0 := by omega
    clear hL hr hre h1 h2 h0
    go_enter Tryz.func28, Tryz.ntmps28
    go_wp2
    go_ret
    exact ⟨hb2, some ⟨w.heap.size, 0, none⟩, L, rfl, unhide HROW, fun ad h => by cases h; exact Nat.le_refl _⟩

def rsnD (D : EvD) (l : List (ByteArray × PolD)) : List ByteArray := if 0 < (tlyD D l 1).length then tlyD D l 1 else tlyD D l 0
def alwD (D : EvD) (l : List (ByteArray × PolD)) : Bool := decide (0 < (tlyD D l 0).length) && decide ((tlyD D l 1).length = 0)
/-- An answer: allowed, the reasons, what erred. -/
def RetAns (al : Bool) (rs es : List ByteArray) (e : Ending) (w' : World) : Prop := ∃ ao ac bo bc, e = .returned (.agg #[.bool al, .slice ao rs.length ac, .slice bo es.length bc]) ∧ RowSt w' ao rs ∧ RowSt w' bo es

/-- What All's last region looks at, and what it makes. -/
structure DPr where
  T : Nat
  K : Nat
  a0 : Option Addr
  m0 : Nat
  c0 : Nat
  a1 : Option Addr
  m1 : Nat
  c1 : Nat
  a2 : Option Addr
  m2 : Nat
  c2 : Nat
  ar : Option Addr
  mr : Nat
  cr : Nat
  g : Bool
  rs : List ByteArray
  es : List ByteArray
def DSp (p : DPr) (B : Nat) : Nat → Value → World → Prop
  | 0, v, _ => v = .pointer (some ⟨p.T, 0, none⟩)
  | 1, v, _ => v = .slice p.a0 p.m0 p.c0
  | 2, v, _ => v = .int .i64 p.m0
  | 3, v, _ => v = .bool p.g
  | 4, v, _ => v = .bool p.g
  | 5, v, _ => p.g = true → v = .pointer (some ⟨p.T, 1, none⟩)
  | 6, v, _ => p.g = true → v = .slice p.a1 p.m1 p.c1
  | 7, v, _ => p.g = true → v = .int .i64 p.m1
  | 8, v, _ => p.g = true → v = .bool (decide (p.m1 = 0))
  | 9, v, _ => v = .bool (p.g && decide (p.m1 = 0))
  | 10, v, _ => v = .slice p.ar p.mr p.cr
  | 11, v, w' => ∃ ao c, v = .slice ao p.rs.length c ∧ RowSt w' ao p.rs ∧ ∀ ad, ao = some ad → B ≤ ad.block
  | 12, v, _ => v = .pointer (some ⟨p.T, 2, none⟩)
  | 13, v, _ => v = .slice p.a2 p.m2 p.c2
  | 14, v, w' => ∃ ao c, v = .slice ao p.es.length c ∧ RowSt w' ao p.es ∧ ∀ ad, ao = some ad → B ≤ ad.block
  | 15, v, w' => ∃ ao c bo d, v = .agg #[.bool (p.g && decide (p.m1 = 0)), .slice ao p.rs.length c, .slice bo p.es.length d] ∧ RowSt w' ao p.rs ∧ RowSt w' bo p.es ∧ (∀ ad, ao = some ad → B ≤ ad.block) ∧ ∀ ad, bo = some ad → B ≤ ad.block
  | _, _, _ => True
theorem DSp.up {p : DPr} {B : Nat} {w' w'' : World} (hs : w'.heap.size ≤ w''.heap.size) (hk : ∀ b, B ≤ b → b < w'.heap.size → w''.heap[b]? = w'.heap[b]?) (j : Nat) (u : Value) (h : DSp p B j u w') : DSp p B j u w'' := by
  match j with
  | 0 | 1 | 2 | 3 | 4 | 5 | 6 | 7 | 8 | 9 | 10 | 12 | 13 => exact h
  | 11 | 14 =>
    obtain ⟨ao, c, h1, h2, h3⟩ := h
    exact ⟨ao, c, h1, h2.other hs fun ad e hl => hk _ (h3 ad e) hl, h3⟩
  | 15 =>
    obtain ⟨ao, c, bo, d, h1, h2, h3, h4, h5⟩ := h
    exact ⟨ao, c, bo, d, h1, h2.other hs fun ad e hl => hk _ (h4 ad e) hl, h3.other hs fun ad e hl => hk _ (h5 ad e) hl, h4, h5⟩
  | _ + 16 => trivial
theorem DSp.upB {p : DPr} {B : Nat} {w' w'' : World} (hb : Below w'.heap.size w' w'') (j : Nat) (u : Value) (h : DSp p B j u w') : DSp p B j u w'' := h.up hb.size fun b _ hl => hb.block b hl
/-- What stands in the answer's place in the end. -/
def DFin (p : DPr) (w w' : World) : Prop := Below w.heap.size w w' ∧ ∃ ao c bo d, w'.heap[p.K]? = some (.cells #[.bool (p.g && decide (p.m1 = 0)), .slice ao p.rs.length c, .slice bo p.es.length d] 65 (0, 0)) ∧ RowSt w' ao p.rs ∧ RowSt w' bo p.es
def DRd (w6 : World) (F : World → Prop) (L : Nat → Bool) (_ : Act) (w' : World) : Prop := (L 16 = false ∧ Below w6.heap.size w6 w') ∨ (L 16 = true ∧ (∀ j, j < 16 → L j = true) ∧ F w')
theorem DRd.below {w6 w' : World} {F : World → Prop} {L : Nat → Bool} {a : Act} {i : Nat} (h : DRd w6 F L a w') (hi : i < 16) (hL : L i = false) : Below w6.heap.size w6 w' := by
  rcases h with h | ⟨_, h, _⟩
  · exact h.2
  · rw [h i hi] at hL
    cases hL
theorem DRd.step {w6 w' w'' : World} {F : World → Prop} {L : Nat → Bool} {a a' : Act} {i : Nat} (h : DRd w6 F L a w') (hi : i < 16) (hL : L i = false) (hb : Below w'.heap.size w' w'') : DRd w6 F (fun j => decide (j = i) || L j) a' w'' := by
  rcases h with ⟨h1, h2⟩ | ⟨_, h, _⟩
  · refine .inl ⟨?_, h2.trans (hb.mono h2.size)⟩
    have : ¬ (16 : Nat) = i := by omega
    simp [this, h1]
  · rw [h i hi] at hL
    cases hL
theorem beq_nat0 (m : Nat) : ((m : Int) == 0) = decide (m = 0) := by
  rw [Bool.eq_iff_iff]
  simp
def dAllW (g : Bool) (i : Nat) : Bool := if 5 ≤ i ∧ i ≤ 8 then g else true

set_option maxHeartbeats 16000000 in
set_option maxRecDepth 1000000 in
theorem dAll_any (glo : Option Addr) (gs : List E4) (N c : Nat) (D : EvD) (l : List (ByteArray × PolD)) (lo : Option Addr) (n cap : Nat) (w : World) (hN : N = gs.length) (hE : EW w glo gs D) (hn : n = l.length) (hn1 : n ≤ 100000) (hr : RowNm w lo l) (hok : okNm l) :
    Calls Tryz.prog 14 #[.slice glo N c, .agg #[.string D.p.t, .string D.p.i, .string D.a.t, .string D.a.i, .string D.r.t, .string D.r.i], .slice lo n cap] w fun e w' => RetAns (alwD D l) (rsnD D l) (tlyD D l 2) e w' ∧ Below w.heap.size w w' := by
  obtain ⟨b2, z2, k1, k2⟩ := ev2 w (.cells #[.string D.p.t, .string D.p.i, .string D.a.t, .string D.a.i, .string D.r.t, .string D.r.i] 30) (.cells #[.bool false, .slice none 0 0, .slice none 0 0] 65)
  have CC := dCount_any glo gs N c D l lo n cap _ hN (hE.below b2) hn hn1 (hr.below b2) hok
  have hL0 := tlyD_len D l 0
  have hL1 := tlyD_len D l 1
  have hL2 := tlyD_len D l 2
  rw [← hn] at hL0 hL1 hL2
  clear hN hE hn hr hok z2
  unfold RetTl at CC
  unfold alwD rsnD
  generalize tlyD D l 0 = P0 at *
  generalize tlyD D l 1 = P1 at *
  generalize tlyD D l 2 = P2 at *
  obtain ⟨rs, hrs⟩ : ∃ rs, rs = if 0 < P1.length then P1 else P0 := ⟨_, rfl⟩
  obtain ⟨al, hal⟩ : ∃ al, al = (decide (0 < P0.length) && decide (P1.length = 0)) := ⟨_, rfl⟩
  rw [← hrs, ← hal]
  go_enter Tryz.func14, Tryz.ntmps14
  go_upto_region 1 with fail
  generalize hw2 : (w.alloc _).alloc _ = w2 at *
  have zz : w.heap.size + 2 = w2.heap.size := by rw [← hw2]; simp
  clear hw2
  have cr0 : w2.cell? ⟨w.heap.size, 0, none⟩ = some (.string D.p.t) := by rw [Lib.cell_of_heap k1]; rfl
  have cr1 : w2.cell? ⟨w.heap.size, 1, none⟩ = some (.string D.p.i) := by rw [Lib.cell_of_heap k1]; rfl
  have cr2 : w2.cell? ⟨w.heap.size, 2, none⟩ = some (.string D.a.t) := by rw [Lib.cell_of_heap k1]; rfl
  have cr3 : w2.cell? ⟨w.heap.size, 3, none⟩ = some (.string D.a.i) := by rw [Lib.cell_of_heap k1]; rfl
  have cr4 : w2.cell? ⟨w.heap.size, 4, none⟩ = some (.string D.r.t) := by rw [Lib.cell_of_heap k1]; rfl
  have cr5 : w2.cell? ⟨w.heap.size, 5, none⟩ = some (.string D.r.i) := by rw [Lib.cell_of_heap k1]; rfl
  go_wp2_with fail
  refine CC.mono ?_
  clear CC
  rintro e w5 ⟨⟨a0, c0, a1, c1, a2, c2, rfl, r0, r1, r2⟩, b5⟩
  clear cr0 cr1 cr2 cr3 cr4 cr5
  have HL := hide (And.intro hL0 (And.intro hL1 hL2))
  have B5 := b2.trans (b5.mono b2.size)
  have k25 := kept_of_below b5 k2
  have b6 := ev1 w5 (.cells #[.slice a0 P0.length c0, .slice a1 P1.length c1, .slice a2 P2.length c2] 89)
  have h6 := alloc_heap w5 (.cells #[.slice a0 P0.length c0, .slice a1 P1.length c1, .slice a2 P2.length c2] 89)
  have B6 := B5.trans (b6.mono B5.size)
  have z5 := b5.size
  have k26 := hide (kept_of_below b6 k25)
  have HC1 : ∀ (ar : Option Addr) (cr : Nat), RowSt w5 ar rs → ∀ w', Below w5.heap.size w5 w' → Calls Tryz.prog 28 #[.slice ar rs.length cr] w' (CopyPost w' rs) := fun ar cr hr w' hb => copyNm_any rs ar cr w' (by subst hrs; split <;> omega) (RowG.below hr hb)
  have HC2 : ∀ w', Below w5.heap.size w5 w' → Calls Tryz.prog 28 #[.slice a2 P2.length c2] w' (CopyPost w' P2) := fun w' hb => copyNm_any P2 a2 c2 w' (by omega) (RowG.below r2 hb)
  clear k1 k2 b2 b5 k25 hL0 hL1 hL2 r2 B5
  go_upto_region 2 with fail
  generalize w5.alloc _ = w6 at *
  have t0 : w6.cell? ⟨w5.heap.size, 0, none⟩ = some (.slice a0 P0.length c0) := by rw [Lib.cell_of_heap h6]; rfl
  have t1 : w6.cell? ⟨w5.heap.size, 1, none⟩ = some (.slice a1 P1.length c1) := by rw [Lib.cell_of_heap h6]; rfl
  have t2 : w6.cell? ⟨w5.heap.size, 2, none⟩ = some (.slice a2 P2.length c2) := by rw [Lib.cell_of_heap h6]; rfl
  have hT6 : w5.heap.size < w6.heap.size := (Array.getElem?_eq_some_iff.1 h6).1
  clear h6
  have K26 := unhide k26
  have hd1 : ¬ w.heap.size + 1 = w5.heap.size := by omega
  have hd2 : ¬ w5.heap.size = w.heap.size + 1 := by omega
  obtain ⟨m0, hm0⟩ : ∃ m, m = P0.length := ⟨_, rfl⟩
  obtain ⟨m1, hm1⟩ : ∃ m, m = P1.length := ⟨_, rfl⟩
  obtain ⟨m2, hm2⟩ : ∃ m, m = P2.length := ⟨_, rfl⟩
  rw [← hm0] at t0 hal
  rw [← hm1] at t1 hrs hal
  rw [← hm2] at t2 HC2
  have HM2 := hide hm2
  clear hm2
  have hK6 : w.heap.size + 1 < w6.heap.size := (Array.getElem?_eq_some_iff.1 K26).1
  obtain ⟨g, hgd⟩ : ∃ g, g = decide (0 < m0) := ⟨_, rfl⟩
  have hal2 : al = (g && decide (m1 = 0)) := by
    rw [hal, hgd]
  have HGD := hide hgd.symm
  clear hal k26 HL z5 hgd
  by_cases e1 : m1 = 0
  · obtain rfl : rs = P0 := by rw [hrs, if_neg (by omega)]
    have HC := fun w' hb => HC1 a0 c0 r0 w' hb
    rw [← hm0] at HC
    have i1 : ¬ (0 : Int) < (m1 : Int) := by omega
    have HA := hide hal2
    clear hrs hal2 hm1 hm0 HC1 r0 r1 e1
    go_upto_region 5 with fail
    refine wp_specsH 16 (dAllW g) (DSp (⟨w5.heap.size, w.heap.size + 1, a0, m0, c0, a1, m1, c1, a2, m2, c2, a0, m0, c0, g, rs, P2⟩ : DPr) w6.heap.size) (DRd w6 (DFin (⟨w5.heap.size, w.heap.size + 1, a0, m0, c0, a1, m1, c1, a2, m2, c2, a0, m0, c0, g, rs, P2⟩ : DPr) w)) (by kernel_rfl) (by kernel_rfl) (by kernel_rfl) (.inl ⟨rfl, (Below.refl _ w6).drew⟩) ?_ ?_ ?_ ?_ ?_ ?_
    · intro i o ho a' w' hdep
      match i, ho with
      | 0, ho =>
        cases ho
        exact want_none rfl
      | 1, ho =>
        cases ho
        exact want_none rfl
      | 2, ho =>
        cases ho
        exact want_none rfl
      | 3, ho =>
        cases ho
        exact want_none rfl
      | 4, ho =>
        cases ho
        exact want_none rfl
      | 5, ho =>
        cases ho
        have e4 : a'.tmps.getD 25 undef = .bool g := hdep 4 (by decide) (by kernel_rfl)
        cases g with
        | true => exact want_some rfl (by kernel_rfl) e4
        | false => exact want_no rfl (by kernel_rfl) e4 (by decide)
      | 6, ho =>
        cases ho
        have e4 : a'.tmps.getD 25 undef = .bool g := hdep 4 (by decide) (by kernel_rfl)
        cases g with
        | true => exact want_some rfl (by kernel_rfl) e4
        | false => exact want_no rfl (by kernel_rfl) e4 (by decide)
      | 7, ho =>
        cases ho
        have e4 : a'.tmps.getD 25 undef = .bool g := hdep 4 (by decide) (by kernel_rfl)
        cases g with
        | true => exact want_some rfl (by kernel_rfl) e4
        | false => exact want_no rfl (by kernel_rfl) e4 (by decide)
      | 8, ho =>
        cases ho
        have e4 : a'.tmps.getD 25 undef = .bool g := hdep 4 (by decide) (by kernel_rfl)
        cases g with
        | true => exact want_some rfl (by kernel_rfl) e4
        | false => exact want_no rfl (by kernel_rfl) e4 (by decide)
      | 9, ho =>
        cases ho
        exact want_none rfl
      | 10, ho =>
        cases ho
        exact want_none rfl
      | 11, ho =>
        cases ho
        exact want_none rfl
      | 12, ho =>
        cases ho
        exact want_none rfl
      | 13, ho =>
        cases ho
        exact want_none rfl
      | 14, ho =>
        cases ho
        exact want_none rfl
      | 15, ho =>
        cases ho
        exact want_none rfl
      | 16, ho =>
        cases ho
        exact want_none rfl
      | i + 17, ho => exact absurd (List.getElem?_eq_some_iff.1 ho).1 (by simp)
    · intro i o hi' ho hwf L a' w' hL hR
      have hR' := hR.step (a' := a'.put o.dst undef) hi' hL (Below.refl _ w')
      match i, hi' with
      | 5, _ => exact ⟨fun h => (by rw [show g = false from hwf] at h; cases h), hR'⟩
      | 6, _ => exact ⟨fun h => (by rw [show g = false from hwf] at h; cases h), hR'⟩
      | 7, _ => exact ⟨fun h => (by rw [show g = false from hwf] at h; cases h), hR'⟩
      | 8, _ => exact ⟨fun h => (by rw [show g = false from hwf] at h; cases h), hR'⟩
      | 0, _ => cases hwf
      | 1, _ => cases hwf
      | 2, _ => cases hwf
      | 3, _ => cases hwf
      | 4, _ => cases hwf
      | 9, _ => cases hwf
      | 10, _ => cases hwf
      | 11, _ => cases hwf
      | 12, _ => cases hwf
      | 13, _ => cases hwf
      | 14, _ => cases hwf
      | 15, _ => cases hwf
      | i + 16, h => exact absurd h (by omega)
    · intro i hi
      unfold dAllW
      rw [if_neg (by omega)]
    · intro i o hi' hwi ho L a' w' hL hw hR hdep hslot hsz K hK
      have hb := hR.below hi' hL
      have B' := b6.trans (hb.mono b6.size)
      have x0 : w'.cell? ⟨w5.heap.size, 0, none⟩ = some (.slice a0 m0 c0) := (hb.cell (p := ⟨w5.heap.size, 0, none⟩) hT6).trans t0
      have x1 : w'.cell? ⟨w5.heap.size, 1, none⟩ = some (.slice a1 m1 c1) := (hb.cell (p := ⟨w5.heap.size, 1, none⟩) hT6).trans t1
      have x2 : w'.cell? ⟨w5.heap.size, 2, none⟩ = some (.slice a2 m2 c2) := (hb.cell (p := ⟨w5.heap.size, 2, none⟩) hT6).trans t2
      have hst := fun (w'' : World) (v : Value) (hb2 : Below w'.heap.size w' w'') => hR.step (a' := a'.put o.dst v) hi' hL hb2
      have HST := hide hst
      clear hst
      match i, hi' with
      | 0, _ =>
        cases ho
        have e7 : a'.tmps.getD 7 undef = .pointer (some ⟨w5.heap.size, 0, none⟩) := hslot 7 (by decide)
        clear HC HC2
        unfold Oper.wp
        go_simp
        exact hK _ _ rfl (unhide HST _ _ (Below.refl _ w')) (fun _ _ h => h)
      | 1, _ =>
        cases ho
        have e0 : a'.tmps.getD 21 undef = .pointer (some ⟨w5.heap.size, 0, none⟩) := hdep 0 (by decide) (by kernel_rfl)
        clear HC HC2
        unfold Oper.wp
        go_simp
        exact hK _ _ rfl (unhide HST _ _ (Below.refl _ w')) (fun _ _ h => h)
      | 2, _ =>
        cases ho
        have e1 : a'.tmps.getD 22 undef = .slice a0 m0 c0 := hdep 1 (by decide) (by kernel_rfl)
        clear HC HC2
        unfold Oper.wp
        go_simp
        exact hK _ _ rfl (unhide HST _ _ (Below.refl _ w')) (fun _ _ h => h)
      | 3, _ =>
        cases ho
        have e2 : a'.tmps.getD 23 undef = .int .i64 m0 := hdep 2 (by decide) (by kernel_rfl)
        clear HC HC2
        unfold Oper.wp
        go_simp
        rw [unhide HGD]
        exact hK _ _ rfl (unhide HST _ _ (Below.refl _ w')) (fun _ _ h => h)
      | 4, _ =>
        cases ho
        have e3 : a'.tmps.getD 24 undef = .bool g := hdep 3 (by decide) (by kernel_rfl)
        clear HC HC2
        unfold Oper.wp
        go_simp
        exact hK _ _ rfl (unhide HST _ _ (Below.refl _ w')) (fun _ _ h => h)
      | 5, _ =>
        cases ho
        have e7 : a'.tmps.getD 7 undef = .pointer (some ⟨w5.heap.size, 0, none⟩) := hslot 7 (by decide)
        clear HC HC2
        unfold Oper.wp
        go_simp
        exact hK _ _ (fun _ => rfl) (unhide HST _ _ (Below.refl _ w')) (fun _ _ h => h)
      | 6, _ =>
        cases ho
        have e5 : a'.tmps.getD 26 undef = .pointer (some ⟨w5.heap.size, 1, none⟩) := hdep 5 (by decide) (by kernel_rfl) (show g = true from hwi)
        clear HC HC2
        unfold Oper.wp
        go_simp
        exact hK _ _ (fun _ => rfl) (unhide HST _ _ (Below.refl _ w')) (fun _ _ h => h)
      | 7, _ =>
        cases ho
        have e6 : a'.tmps.getD 27 undef = .slice a1 m1 c1 := hdep 6 (by decide) (by kernel_rfl) (show g = true from hwi)
        clear HC HC2
        unfold Oper.wp
        go_simp
        exact hK _ _ (fun _ => rfl) (unhide HST _ _ (Below.refl _ w')) (fun _ _ h => h)
      | 8, _ =>
        cases ho
        have e7 : a'.tmps.getD 28 undef = .int .i64 m1 := hdep 7 (by decide) (by kernel_rfl) (show g = true from hwi)
        clear HC HC2
        unfold Oper.wp
        go_simp
        exact hK _ _ (fun _ => congrArg Value.bool (beq_nat0 m1)) (unhide HST _ _ (Below.refl _ w')) (fun _ _ h => h)
      | 9, _ =>
        cases ho
        have e4 : a'.tmps.getD 25 undef = .bool g := hdep 4 (by decide) (by kernel_rfl)
        have e8 : g = true → a'.tmps.getD 29 undef = .bool (decide (m1 = 0)) := hdep 8 (by decide) (by kernel_rfl)
        clear HC HC2
        cases g with
        | true =>
          have e8 := e8 rfl
          unfold Oper.wp
          go_simp
          exact hK _ _ rfl (unhide HST _ _ (Below.refl _ w')) (fun _ _ h => h)
        | false =>
          clear e8
          unfold Oper.wp
          go_simp
          exact hK _ _ rfl (unhide HST _ _ (Below.refl _ w')) (fun _ _ h => h)
      | 10, _ =>
        cases ho
        have e7 : a'.tmps.getD 8 undef = .slice a0 m0 c0 := hslot 8 (by decide)
        clear HC HC2
        unfold Oper.wp
        go_simp
        exact hK _ _ rfl (unhide HST _ _ (Below.refl _ w')) (fun _ _ h => h)
      | 11, _ =>
        cases ho
        have e0 : a'.tmps.getD 31 undef = .slice a0 m0 c0 := hdep 10 (by decide) (by kernel_rfl)
        have e0' : a'.tmps[31]?.getD undef = .slice a0 m0 c0 := by simpa using e0
        have C := HC w' B'
        clear HC HC2 x0 x1 x2
        unfold Oper.wp
        go_simp
        refine C.mono ?_
        rintro e w7 ⟨b7, ao, c7, rfl, hr7, n7⟩
        exact hK _ _ ⟨ao, c7, rfl, hr7, fun ad e => Nat.le_trans hb.size (n7 ad e)⟩ (unhide HST _ _ b7) (fun j u h => h.upB b7)
      | 12, _ =>
        cases ho
        have e7 : a'.tmps.getD 7 undef = .pointer (some ⟨w5.heap.size, 0, none⟩) := hslot 7 (by decide)
        clear HC HC2
        unfold Oper.wp
        go_simp
        exact hK _ _ rfl (unhide HST _ _ (Below.refl _ w')) (fun _ _ h => h)
      | 13, _ =>
        cases ho
        have e12 : a'.tmps.getD 33 undef = .pointer (some ⟨w5.heap.size, 2, none⟩) := hdep 12 (by decide) (by kernel_rfl)
        clear HC HC2
        unfold Oper.wp
        go_simp
        exact hK _ _ rfl (unhide HST _ _ (Below.refl _ w')) (fun _ _ h => h)
      | 14, _ =>
        cases ho
        have e0 : a'.tmps.getD 34 undef = .slice a2 m2 c2 := hdep 13 (by decide) (by kernel_rfl)
        have e0' : a'.tmps[34]?.getD undef = .slice a2 m2 c2 := by simpa using e0
        have C := HC2 w' B'
        clear HC HC2 x0 x1 x2
        unfold Oper.wp
        go_simp
        refine C.mono ?_
        rintro e w7 ⟨b7, ao, c7, rfl, hr7, n7⟩
        exact hK _ _ ⟨ao, c7, rfl, hr7, fun ad e => Nat.le_trans hb.size (n7 ad e)⟩ (unhide HST _ _ b7) (fun j u h => h.upB b7)
      | 15, _ =>
        cases ho
        have e9 : a'.tmps.getD 30 undef = .bool (g && decide (m1 = 0)) := hdep 9 (by decide) (by kernel_rfl)
        obtain ⟨ao, ac, e11, hr1, n1⟩ := hdep 11 (by decide) (by kernel_rfl)
        obtain ⟨bo, bc, e14, hr2, n2⟩ := hdep 14 (by decide) (by kernel_rfl)
        have e11 : a'.tmps.getD 32 undef = .slice ao rs.length ac := e11
        have e14 : a'.tmps.getD 35 undef = .slice bo P2.length bc := e14
        have HR := hide (And.intro hr1 (And.intro hr2 (And.intro n1 n2)))
        obtain ⟨q, hq⟩ : ∃ q, q = (g && decide (m1 = 0)) := ⟨_, rfl⟩
        rw [← hq] at e9
        have HQ := hide hq
        have e9' : a'.tmps[30]?.getD undef = .bool q := by simpa using e9
        have e11' : a'.tmps[32]?.getD undef = .slice ao rs.length ac := by simpa using e11
        have e14' : a'.tmps[35]?.getD undef = .slice bo P2.length bc := by simpa using e14
        clear hr1 hr2 n1 n2 HC HC2 hq hsz
        unfold Oper.wp
        go_simp
        exact hK (.agg #[.bool q, .slice ao rs.length ac, .slice bo P2.length bc]) _ ⟨ao, ac, bo, bc, by rw [unhide HQ], (unhide HR).1, (unhide HR).2.1, (unhide HR).2.2.1, (unhide HR).2.2.2⟩ (unhide HST _ _ (Below.refl _ w')) (fun _ _ h => h)
      | i + 16, h => exact absurd h (by omega)
    · intro i o hi' ho L a' w' hL hw hR hdep hslot K hK
      have : i = 16 := by
        have h := (List.getElem?_eq_some_iff.1 ho).1
        simp only [List.length_cons, List.length_nil] at h
        omega
      subst this
      cases ho
      have e6 : a'.tmps.getD 6 undef = .pointer (some ⟨w.heap.size + 1, 0, none⟩) := hslot 6 (by decide)
      have hall : ∀ j, j < 16 → L j = true := fun j hj => by
        match j, hj with
        | 0, _ => exact hw 0 (by kernel_rfl)
        | 1, _ => exact hw 1 (by kernel_rfl)
        | 2, _ => exact hw 2 (by kernel_rfl)
        | 3, _ => exact hw 3 (by kernel_rfl)
        | 4, _ => exact hw 4 (by kernel_rfl)
        | 5, _ => exact hw 5 (by kernel_rfl)
        | 6, _ => exact hw 6 (by kernel_rfl)
        | 7, _ => exact hw 7 (by kernel_rfl)
        | 8, _ => exact hw 8 (by kernel_rfl)
        | 9, _ => exact hw 9 (by kernel_rfl)
        | 10, _ => exact hw 10 (by kernel_rfl)
        | 11, _ => exact hw 11 (by kernel_rfl)
        | 12, _ => exact hw 12 (by kernel_rfl)
        | 13, _ => exact hw 13 (by kernel_rfl)
        | 14, _ => exact hw 14 (by kernel_rfl)
        | 15, _ => exact hw 15 (by kernel_rfl)
        | j + 16, h => exact absurd h (by omega)
      obtain ⟨ao, ac, bo, bc, e15, hr1, hr2, n1, n2⟩ := hdep 15 (by decide) (by kernel_rfl)
      have e15 : a'.tmps.getD 36 undef = .agg #[.bool (g && decide (m1 = 0)), .slice ao rs.length ac, .slice bo P2.length bc] := e15
      have hb : Below w6.heap.size w6 w' := by
        rcases hR with h | ⟨h, _⟩
        · exact h.2
        · rw [hL] at h
          cases h
      have hK7 := kept_of_below hb K26
      have y0 : w'.cell? ⟨w.heap.size + 1, 0, none⟩ = some (.bool false) := by rw [Lib.cell_of_heap hK7]; rfl
      have y1 : w'.cell? ⟨w.heap.size + 1, 1, none⟩ = some (.slice none 0 0) := by rw [Lib.cell_of_heap hK7]; rfl
      have y2 : w'.cell? ⟨w.heap.size + 1, 2, none⟩ = some (.slice none 0 0) := by rw [Lib.cell_of_heap hK7]; rfl
      have yf : ∀ o, w'.frozen? ⟨w.heap.size + 1, o, none⟩ = false := fun o => Lib.frozen_of_heap hK7 o
      generalize hmm : decide (m1 = 0) = mm at *
      have hkb : ∀ b, b ≠ w.heap.size + 1 → (w'.setCells (w.heap.size + 1) 0 [.bool (g && mm), .slice ao rs.length ac, .slice bo P2.length bc]).heap[b]? = w'.heap[b]? := fun b hb => heap_setCells hb _ _ _
      have hsz : (w'.setCells (w.heap.size + 1) 0 [.bool (g && mm), .slice ao rs.length ac, .slice bo P2.length bc]).heap.size = w'.heap.size := size_setCells _ _ _
      have hnew : (w'.setCells (w.heap.size + 1) 0 [.bool (g && mm), .slice ao rs.length ac, .slice bo P2.length bc]).heap[w.heap.size + 1]? = some (.cells #[.bool (g && mm), .slice ao rs.length ac, .slice bo P2.length bc] 65 (0, 0)) := by
        have h1 := heap_setCell_same w' (w.heap.size + 1) 0 _ _ (.bool (g && mm)) hK7
        have h2 := heap_setCell_same _ (w.heap.size + 1) 1 _ _ (.slice ao rs.length ac) h1
        exact heap_setCell_same _ (w.heap.size + 1) 2 _ _ (.slice bo P2.length bc) h2
      have hB7 : Below w.heap.size w (w'.setCells (w.heap.size + 1) 0 [.bool (g && mm), .slice ao rs.length ac, .slice bo P2.length bc]) := belowSetCells _ _ _ (B6.trans (hb.mono B6.size)) (Nat.le_succ _)
      have hup : ∀ j u, DSp (⟨w5.heap.size, w.heap.size + 1, a0, m0, c0, a1, m1, c1, a2, m2, c2, a0, m0, c0, g, rs, P2⟩ : DPr) w6.heap.size j u w' → DSp (⟨w5.heap.size, w.heap.size + 1, a0, m0, c0, a1, m1, c1, a2, m2, c2, a0, m0, c0, g, rs, P2⟩ : DPr) w6.heap.size j u (w'.setCells (w.heap.size + 1) 0 [.bool (g && mm), .slice ao rs.length ac, .slice bo P2.length bc]) := fun j u h => h.up (by rw [hsz]; exact Nat.le_refl _) fun b hb _ => hkb b (by omega)
      have hfin : DRd w6 (DFin (⟨w5.heap.size, w.heap.size + 1, a0, m0, c0, a1, m1, c1, a2, m2, c2, a0, m0, c0, g, rs, P2⟩ : DPr) w) (fun j => decide (j = 16) || L j) a' (w'.setCells (w.heap.size + 1) 0 [.bool (g && mm), .slice ao rs.length ac, .slice bo P2.length bc]) := by
        refine .inr ⟨by simp, fun j hj => by simp [hall j hj], hB7, ao, ac, bo, bc, ?_, ?_, ?_⟩
        · rw [show decide ((⟨w5.heap.size, w.heap.size + 1, a0, m0, c0, a1, m1, c1, a2, m2, c2, a0, m0, c0, g, rs, P2⟩ : DPr).m1 = 0) = mm from hmm]
          exact hnew
        · exact hr1.other (by rw [hsz]; exact Nat.le_refl _) fun ad e _ => hkb _ (by have := n1 ad e; omega)
        · exact hr2.other (by rw [hsz]; exact Nat.le_refl _) fun ad e _ => hkb _ (by have := n2 ad e; omega)
      have HF := hide (And.intro hup hfin)
      clear hup hfin hkb hsz hnew hB7 hr1 hr2 n1 n2 hK7 hmm hR hdep hw HC HC2 hall hL hslot
      have hK : ∀ v, K (a'.put none v) (w'.setCells (w.heap.size + 1) 0 [.bool (g && mm), .slice ao rs.length ac, .slice bo P2.length bc]) := fun v => hK _ (unhide HF).2 (unhide HF).1 v
      unfold Oper.wp
      go_simp
      exact hK undef
    · intro v L w9 hall hR hsp
      obtain ⟨b9, ao, ac, bo, bc, h9, hr1, hr2⟩ : DFin (⟨w5.heap.size, w.heap.size + 1, a0, m0, c0, a1, m1, c1, a2, m2, c2, a0, m0, c0, g, rs, P2⟩ : DPr) w w9 := by
        rcases hR with ⟨h, _⟩ | ⟨_, _, h⟩
        · rw [hall 16 (by decide)] at h
          cases h
        · exact h
      have HH := hide (And.intro b9 (And.intro hr1 hr2))
      have y0 : w9.cell? ⟨w.heap.size + 1, 0, none⟩ = some (.bool (g && decide (m1 = 0))) := by rw [Lib.cell_of_heap h9]; rfl
      have y1 : w9.cell? ⟨w.heap.size + 1, 1, none⟩ = some (.slice ao rs.length ac) := by rw [Lib.cell_of_heap h9]; rfl
      have y2 : w9.cell? ⟨w.heap.size + 1, 2, none⟩ = some (.slice bo P2.length bc) := by rw [Lib.cell_of_heap h9]; rfl
      clear hR hall hsp HC HC2 h9 b9 hr1 hr2
      rw [← unhide HA] at y0
      simp only [putAll, dstOf, List.getElem?_cons_zero, List.getElem?_cons_succ, Option.bind_some]
      simp only [Act.put, List.setIfInBounds_toArray, List.set_cons_succ, List.set_cons_zero]
      generalize v 0 = v0
      generalize v 1 = v1
      generalize v 2 = v2
      generalize v 3 = v3
      generalize v 4 = v4
      generalize v 5 = v5
      generalize v 6 = v6
      generalize v 7 = v7
      generalize v 8 = v8
      generalize v 9 = v9
      generalize v 10 = v10
      generalize v 11 = v11
      generalize v 12 = v12
      generalize v 13 = v13
      generalize v 14 = v14
      generalize v 15 = v15
      go_wp2
      exact bodyPost_ret (v := .agg #[.bool al, .slice ao rs.length ac, .slice bo P2.length bc]) (by simp [results, Tryz.results14, go_sem, y0, y1, y2]) rfl ⟨⟨ao, ac, bo, bc, rfl, (unhide HH).2.1, (unhide HH).2.2⟩, (unhide HH).1⟩
  · obtain rfl : rs = P1 := by rw [hrs, if_pos (by omega)]
    have HC := fun w' hb => HC1 a1 c1 r1 w' hb
    rw [← hm1] at HC
    have i1 : (0 : Int) < (m1 : Int) := by omega
    have HA := hide hal2
    clear hrs hal2 hm1 hm0 HC1 r0 r1 e1
    go_upto_region 5 with fail
    refine wp_specsH 16 (dAllW g) (DSp (⟨w5.heap.size, w.heap.size + 1, a0, m0, c0, a1, m1, c1, a2, m2, c2, a1, m1, c1, g, rs, P2⟩ : DPr) w6.heap.size) (DRd w6 (DFin (⟨w5.heap.size, w.heap.size + 1, a0, m0, c0, a1, m1, c1, a2, m2, c2, a1, m1, c1, g, rs, P2⟩ : DPr) w)) (by kernel_rfl) (by kernel_rfl) (by kernel_rfl) (.inl ⟨rfl, (Below.refl _ w6).drew⟩) ?_ ?_ ?_ ?_ ?_ ?_
    · intro i o ho a' w' hdep
      match i, ho with
      | 0, ho =>
        cases ho
        exact want_none rfl
      | 1, ho =>
        cases ho
        exact want_none rfl
      | 2, ho =>
        cases ho
        exact want_none rfl
      | 3, ho =>
        cases ho
        exact want_none rfl
      | 4, ho =>
        cases ho
        exact want_none rfl
      | 5, ho =>
        cases ho
        have e4 : a'.tmps.getD 25 undef = .bool g := hdep 4 (by decide) (by kernel_rfl)
        cases g with
        | true => exact want_some rfl (by kernel_rfl) e4
        | false => exact want_no rfl (by kernel_rfl) e4 (by decide)
      | 6, ho =>
        cases ho
        have e4 : a'.tmps.getD 25 undef = .bool g := hdep 4 (by decide) (by kernel_rfl)
        cases g with
        | true => exact want_some rfl (by kernel_rfl) e4
        | false => exact want_no rfl (by kernel_rfl) e4 (by decide)
      | 7, ho =>
        cases ho
        have e4 : a'.tmps.getD 25 undef = .bool g := hdep 4 (by decide) (by kernel_rfl)
        cases g with
        | true => exact want_some rfl (by kernel_rfl) e4
        | false => exact want_no rfl (by kernel_rfl) e4 (by decide)
      | 8, ho =>
        cases ho
        have e4 : a'.tmps.getD 25 undef = .bool g := hdep 4 (by decide) (by kernel_rfl)
        cases g with
        | true => exact want_some rfl (by kernel_rfl) e4
        | false => exact want_no rfl (by kernel_rfl) e4 (by decide)
      | 9, ho =>
        cases ho
        exact want_none rfl
      | 10, ho =>
        cases ho
        exact want_none rfl
      | 11, ho =>
        cases ho
        exact want_none rfl
      | 12, ho =>
        cases ho
        exact want_none rfl
      | 13, ho =>
        cases ho
        exact want_none rfl
      | 14, ho =>
        cases ho
        exact want_none rfl
      | 15, ho =>
        cases ho
        exact want_none rfl
      | 16, ho =>
        cases ho
        exact want_none rfl
      | i + 17, ho => exact absurd (List.getElem?_eq_some_iff.1 ho).1 (by simp)
    · intro i o hi' ho hwf L a' w' hL hR
      have hR' := hR.step (a' := a'.put o.dst undef) hi' hL (Below.refl _ w')
      match i, hi' with
      | 5, _ => exact ⟨fun h => (by rw [show g = false from hwf] at h; cases h), hR'⟩
      | 6, _ => exact ⟨fun h => (by rw [show g = false from hwf] at h; cases h), hR'⟩
      | 7, _ => exact ⟨fun h => (by rw [show g = false from hwf] at h; cases h), hR'⟩
      | 8, _ => exact ⟨fun h => (by rw [show g = false from hwf] at h; cases h), hR'⟩
      | 0, _ => cases hwf
      | 1, _ => cases hwf
      | 2, _ => cases hwf
      | 3, _ => cases hwf
      | 4, _ => cases hwf
      | 9, _ => cases hwf
      | 10, _ => cases hwf
      | 11, _ => cases hwf
      | 12, _ => cases hwf
      | 13, _ => cases hwf
      | 14, _ => cases hwf
      | 15, _ => cases hwf
      | i + 16, h => exact absurd h (by omega)
    · intro i hi
      unfold dAllW
      rw [if_neg (by omega)]
    · intro i o hi' hwi ho L a' w' hL hw hR hdep hslot hsz K hK
      have hb := hR.below hi' hL
      have B' := b6.trans (hb.mono b6.size)
      have x0 : w'.cell? ⟨w5.heap.size, 0, none⟩ = some (.slice a0 m0 c0) := (hb.cell (p := ⟨w5.heap.size, 0, none⟩) hT6).trans t0
      have x1 : w'.cell? ⟨w5.heap.size, 1, none⟩ = some (.slice a1 m1 c1) := (hb.cell (p := ⟨w5.heap.size, 1, none⟩) hT6).trans t1
      have x2 : w'.cell? ⟨w5.heap.size, 2, none⟩ = some (.slice a2 m2 c2) := (hb.cell (p := ⟨w5.heap.size, 2, none⟩) hT6).trans t2
      have hst := fun (w'' : World) (v : Value) (hb2 : Below w'.heap.size w' w'') => hR.step (a' := a'.put o.dst v) hi' hL hb2
      have HST := hide hst
      clear hst
      match i, hi' with
      | 0, _ =>
        cases ho
        have e7 : a'.tmps.getD 7 undef = .pointer (some ⟨w5.heap.size, 0, none⟩) := hslot 7 (by decide)
        clear HC HC2
        unfold Oper.wp
        go_simp
        exact hK _ _ rfl (unhide HST _ _ (Below.refl _ w')) (fun _ _ h => h)
      | 1, _ =>
        cases ho
        have e0 : a'.tmps.getD 21 undef = .pointer (some ⟨w5.heap.size, 0, none⟩) := hdep 0 (by decide) (by kernel_rfl)
        clear HC HC2
        unfold Oper.wp
        go_simp
        exact hK _ _ rfl (unhide HST _ _ (Below.refl _ w')) (fun _ _ h => h)
      | 2, _ =>
        cases ho
        have e1 : a'.tmps.getD 22 undef = .slice a0 m0 c0 := hdep 1 (by decide) (by kernel_rfl)
        clear HC HC2
        unfold Oper.wp
        go_simp
        exact hK _ _ rfl (unhide HST _ _ (Below.refl _ w')) (fun _ _ h => h)
      | 3, _ =>
        cases ho
        have e2 : a'.tmps.getD 23 undef = .int .i64 m0 := hdep 2 (by decide) (by kernel_rfl)
        clear HC HC2
        unfold Oper.wp
        go_simp
        rw [unhide HGD]
        exact hK _ _ rfl (unhide HST _ _ (Below.refl _ w')) (fun _ _ h => h)
      | 4, _ =>
        cases ho
        have e3 : a'.tmps.getD 24 undef = .bool g := hdep 3 (by decide) (by kernel_rfl)
        clear HC HC2
        unfold Oper.wp
        go_simp
        exact hK _ _ rfl (unhide HST _ _ (Below.refl _ w')) (fun _ _ h => h)
      | 5, _ =>
        cases ho
        have e7 : a'.tmps.getD 7 undef = .pointer (some ⟨w5.heap.size, 0, none⟩) := hslot 7 (by decide)
        clear HC HC2
        unfold Oper.wp
        go_simp
        exact hK _ _ (fun _ => rfl) (unhide HST _ _ (Below.refl _ w')) (fun _ _ h => h)
      | 6, _ =>
        cases ho
        have e5 : a'.tmps.getD 26 undef = .pointer (some ⟨w5.heap.size, 1, none⟩) := hdep 5 (by decide) (by kernel_rfl) (show g = true from hwi)
        clear HC HC2
        unfold Oper.wp
        go_simp
        exact hK _ _ (fun _ => rfl) (unhide HST _ _ (Below.refl _ w')) (fun _ _ h => h)
      | 7, _ =>
        cases ho
        have e6 : a'.tmps.getD 27 undef = .slice a1 m1 c1 := hdep 6 (by decide) (by kernel_rfl) (show g = true from hwi)
        clear HC HC2
        unfold Oper.wp
        go_simp
        exact hK _ _ (fun _ => rfl) (unhide HST _ _ (Below.refl _ w')) (fun _ _ h => h)
      | 8, _ =>
        cases ho
        have e7 : a'.tmps.getD 28 undef = .int .i64 m1 := hdep 7 (by decide) (by kernel_rfl) (show g = true from hwi)
        clear HC HC2
        unfold Oper.wp
        go_simp
        exact hK _ _ (fun _ => congrArg Value.bool (beq_nat0 m1)) (unhide HST _ _ (Below.refl _ w')) (fun _ _ h => h)
      | 9, _ =>
        cases ho
        have e4 : a'.tmps.getD 25 undef = .bool g := hdep 4 (by decide) (by kernel_rfl)
        have e8 : g = true → a'.tmps.getD 29 undef = .bool (decide (m1 = 0)) := hdep 8 (by decide) (by kernel_rfl)
        clear HC HC2
        cases g with
        | true =>
          have e8 := e8 rfl
          unfold Oper.wp
          go_simp
          exact hK _ _ rfl (unhide HST _ _ (Below.refl _ w')) (fun _ _ h => h)
        | false =>
          clear e8
          unfold Oper.wp
          go_simp
          exact hK _ _ rfl (unhide HST _ _ (Below.refl _ w')) (fun _ _ h => h)
      | 10, _ =>
        cases ho
        have e7 : a'.tmps.getD 8 undef = .slice a1 m1 c1 := hslot 8 (by decide)
        clear HC HC2
        unfold Oper.wp
        go_simp
        exact hK _ _ rfl (unhide HST _ _ (Below.refl _ w')) (fun _ _ h => h)
      | 11, _ =>
        cases ho
        have e0 : a'.tmps.getD 31 undef = .slice a1 m1 c1 := hdep 10 (by decide) (by kernel_rfl)
        have e0' : a'.tmps[31]?.getD undef = .slice a1 m1 c1 := by simpa using e0
        have C := HC w' B'
        clear HC HC2 x0 x1 x2
        unfold Oper.wp
        go_simp
        refine C.mono ?_
        rintro e w7 ⟨b7, ao, c7, rfl, hr7, n7⟩
        exact hK _ _ ⟨ao, c7, rfl, hr7, fun ad e => Nat.le_trans hb.size (n7 ad e)⟩ (unhide HST _ _ b7) (fun j u h => h.upB b7)
      | 12, _ =>
        cases ho
        have e7 : a'.tmps.getD 7 undef = .pointer (some ⟨w5.heap.size, 0, none⟩) := hslot 7 (by decide)
        clear HC HC2
        unfold Oper.wp
        go_simp
        exact hK _ _ rfl (unhide HST _ _ (Below.refl _ w')) (fun _ _ h => h)
      | 13, _ =>
        cases ho
        have e12 : a'.tmps.getD 33 undef = .pointer (some ⟨w5.heap.size, 2, none⟩) := hdep 12 (by decide) (by kernel_rfl)
        clear HC HC2
        unfold Oper.wp
        go_simp
        exact hK _ _ rfl (unhide HST _ _ (Below.refl _ w')) (fun _ _ h => h)
      | 14, _ =>
        cases ho
        have e0 : a'.tmps.getD 34 undef = .slice a2 m2 c2 := hdep 13 (by decide) (by kernel_rfl)
        have e0' : a'.tmps[34]?.getD undef = .slice a2 m2 c2 := by simpa using e0
        have C := HC2 w' B'
        clear HC HC2 x0 x1 x2
        unfold Oper.wp
        go_simp
        refine C.mono ?_
        rintro e w7 ⟨b7, ao, c7, rfl, hr7, n7⟩
        exact hK _ _ ⟨ao, c7, rfl, hr7, fun ad e => Nat.le_trans hb.size (n7 ad e)⟩ (unhide HST _ _ b7) (fun j u h => h.upB b7)
      | 15, _ =>
        cases ho
        have e9 : a'.tmps.getD 30 undef = .bool (g && decide (m1 = 0)) := hdep 9 (by decide) (by kernel_rfl)
        obtain ⟨ao, ac, e11, hr1, n1⟩ := hdep 11 (by decide) (by kernel_rfl)
        obtain ⟨bo, bc, e14, hr2, n2⟩ := hdep 14 (by decide) (by kernel_rfl)
        have e11 : a'.tmps.getD 32 undef = .slice ao rs.length ac := e11
        have e14 : a'.tmps.getD 35 undef = .slice bo P2.length bc := e14
        have HR := hide (And.intro hr1 (And.intro hr2 (And.intro n1 n2)))
        obtain ⟨q, hq⟩ : ∃ q, q = (g && decide (m1 = 0)) := ⟨_, rfl⟩
        rw [← hq] at e9
        have HQ := hide hq
        have e9' : a'.tmps[30]?.getD undef = .bool q := by simpa using e9
        have e11' : a'.tmps[32]?.getD undef = .slice ao rs.length ac := by simpa using e11
        have e14' : a'.tmps[35]?.getD undef = .slice bo P2.length bc := by simpa using e14
        clear hr1 hr2 n1 n2 HC HC2 hq hsz
        unfold Oper.wp
        go_simp
        exact hK (.agg #[.bool q, .slice ao rs.length ac, .slice bo P2.length bc]) _ ⟨ao, ac, bo, bc, by rw [unhide HQ], (unhide HR).1, (unhide HR).2.1, (unhide HR).2.2.1, (unhide HR).2.2.2⟩ (unhide HST _ _ (Below.refl _ w')) (fun _ _ h => h)
      | i + 16, h => exact absurd h (by omega)
    · intro i o hi' ho L a' w' hL hw hR hdep hslot K hK
      have : i = 16 := by
        have h := (List.getElem?_eq_some_iff.1 ho).1
        simp only [List.length_cons, List.length_nil] at h
        omega
      subst this
      cases ho
      have e6 : a'.tmps.getD 6 undef = .pointer (some ⟨w.heap.size + 1, 0, none⟩) := hslot 6 (by decide)
      have hall : ∀ j, j < 16 → L j = true := fun j hj => by
        match j, hj with
        | 0, _ => exact hw 0 (by kernel_rfl)
        | 1, _ => exact hw 1 (by kernel_rfl)
        | 2, _ => exact hw 2 (by kernel_rfl)
        | 3, _ => exact hw 3 (by kernel_rfl)
        | 4, _ => exact hw 4 (by kernel_rfl)
        | 5, _ => exact hw 5 (by kernel_rfl)
        | 6, _ => exact hw 6 (by kernel_rfl)
        | 7, _ => exact hw 7 (by kernel_rfl)
        | 8, _ => exact hw 8 (by kernel_rfl)
        | 9, _ => exact hw 9 (by kernel_rfl)
        | 10, _ => exact hw 10 (by kernel_rfl)
        | 11, _ => exact hw 11 (by kernel_rfl)
        | 12, _ => exact hw 12 (by kernel_rfl)
        | 13, _ => exact hw 13 (by kernel_rfl)
        | 14, _ => exact hw 14 (by kernel_rfl)
        | 15, _ => exact hw 15 (by kernel_rfl)
        | j + 16, h => exact absurd h (by omega)
      obtain ⟨ao, ac, bo, bc, e15, hr1, hr2, n1, n2⟩ := hdep 15 (by decide) (by kernel_rfl)
      have e15 : a'.tmps.getD 36 undef = .agg #[.bool (g && decide (m1 = 0)), .slice ao rs.length ac, .slice bo P2.length bc] := e15
      have hb : Below w6.heap.size w6 w' := by
        rcases hR with h | ⟨h, _⟩
        · exact h.2
        · rw [hL] at h
          cases h
      have hK7 := kept_of_below hb K26
      have y0 : w'.cell? ⟨w.heap.size + 1, 0, none⟩ = some (.bool false) := by rw [Lib.cell_of_heap hK7]; rfl
      have y1 : w'.cell? ⟨w.heap.size + 1, 1, none⟩ = some (.slice none 0 0) := by rw [Lib.cell_of_heap hK7]; rfl
      have y2 : w'.cell? ⟨w.heap.size + 1, 2, none⟩ = some (.slice none 0 0) := by rw [Lib.cell_of_heap hK7]; rfl
      have yf : ∀ o, w'.frozen? ⟨w.heap.size + 1, o, none⟩ = false := fun o => Lib.frozen_of_heap hK7 o
      generalize hmm : decide (m1 = 0) = mm at *
      have hkb : ∀ b, b ≠ w.heap.size + 1 → (w'.setCells (w.heap.size + 1) 0 [.bool (g && mm), .slice ao rs.length ac, .slice bo P2.length bc]).heap[b]? = w'.heap[b]? := fun b hb => heap_setCells hb _ _ _
      have hsz : (w'.setCells (w.heap.size + 1) 0 [.bool (g && mm), .slice ao rs.length ac, .slice bo P2.length bc]).heap.size = w'.heap.size := size_setCells _ _ _
      have hnew : (w'.setCells (w.heap.size + 1) 0 [.bool (g && mm), .slice ao rs.length ac, .slice bo P2.length bc]).heap[w.heap.size + 1]? = some (.cells #[.bool (g && mm), .slice ao rs.length ac, .slice bo P2.length bc] 65 (0, 0)) := by
        have h1 := heap_setCell_same w' (w.heap.size + 1) 0 _ _ (.bool (g && mm)) hK7
        have h2 := heap_setCell_same _ (w.heap.size + 1) 1 _ _ (.slice ao rs.length ac) h1
        exact heap_setCell_same _ (w.heap.size + 1) 2 _ _ (.slice bo P2.length bc) h2
      have hB7 : Below w.heap.size w (w'.setCells (w.heap.size + 1) 0 [.bool (g && mm), .slice ao rs.length ac, .slice bo P2.length bc]) := belowSetCells _ _ _ (B6.trans (hb.mono B6.size)) (Nat.le_succ _)
      have hup : ∀ j u, DSp (⟨w5.heap.size, w.heap.size + 1, a0, m0, c0, a1, m1, c1, a2, m2, c2, a1, m1, c1, g, rs, P2⟩ : DPr) w6.heap.size j u w' → DSp (⟨w5.heap.size, w.heap.size + 1, a0, m0, c0, a1, m1, c1, a2, m2, c2, a1, m1, c1, g, rs, P2⟩ : DPr) w6.heap.size j u (w'.setCells (w.heap.size + 1) 0 [.bool (g && mm), .slice ao rs.length ac, .slice bo P2.length bc]) := fun j u h => h.up (by rw [hsz]; exact Nat.le_refl _) fun b hb _ => hkb b (by omega)
      have hfin : DRd w6 (DFin (⟨w5.heap.size, w.heap.size + 1, a0, m0, c0, a1, m1, c1, a2, m2, c2, a1, m1, c1, g, rs, P2⟩ : DPr) w) (fun j => decide (j = 16) || L j) a' (w'.setCells (w.heap.size + 1) 0 [.bool (g && mm), .slice ao rs.length ac, .slice bo P2.length bc]) := by
        refine .inr ⟨by simp, fun j hj => by simp [hall j hj], hB7, ao, ac, bo, bc, ?_, ?_, ?_⟩
        · rw [show decide ((⟨w5.heap.size, w.heap.size + 1, a0, m0, c0, a1, m1, c1, a2, m2, c2, a1, m1, c1, g, rs, P2⟩ : DPr).m1 = 0) = mm from hmm]
          exact hnew
        · exact hr1.other (by rw [hsz]; exact Nat.le_refl _) fun ad e _ => hkb _ (by have := n1 ad e; omega)
        · exact hr2.other (by rw [hsz]; exact Nat.le_refl _) fun ad e _ => hkb _ (by have := n2 ad e; omega)
      have HF := hide (And.intro hup hfin)
      clear hup hfin hkb hsz hnew hB7 hr1 hr2 n1 n2 hK7 hmm hR hdep hw HC HC2 hall hL hslot
      have hK : ∀ v, K (a'.put none v) (w'.setCells (w.heap.size + 1) 0 [.bool (g && mm), .slice ao rs.length ac, .slice bo P2.length bc]) := fun v => hK _ (unhide HF).2 (unhide HF).1 v
      unfold Oper.wp
      go_simp
      exact hK undef
    · intro v L w9 hall hR hsp
      obtain ⟨b9, ao, ac, bo, bc, h9, hr1, hr2⟩ : DFin (⟨w5.heap.size, w.heap.size + 1, a0, m0, c0, a1, m1, c1, a2, m2, c2, a1, m1, c1, g, rs, P2⟩ : DPr) w w9 := by
        rcases hR with ⟨h, _⟩ | ⟨_, _, h⟩
        · rw [hall 16 (by decide)] at h
          cases h
        · exact h
      have HH := hide (And.intro b9 (And.intro hr1 hr2))
      have y0 : w9.cell? ⟨w.heap.size + 1, 0, none⟩ = some (.bool (g && decide (m1 = 0))) := by rw [Lib.cell_of_heap h9]; rfl
      have y1 : w9.cell? ⟨w.heap.size + 1, 1, none⟩ = some (.slice ao rs.length ac) := by rw [Lib.cell_of_heap h9]; rfl
      have y2 : w9.cell? ⟨w.heap.size + 1, 2, none⟩ = some (.slice bo P2.length bc) := by rw [Lib.cell_of_heap h9]; rfl
      clear hR hall hsp HC HC2 h9 b9 hr1 hr2
      rw [← unhide HA] at y0
      simp only [putAll, dstOf, List.getElem?_cons_zero, List.getElem?_cons_succ, Option.bind_some]
      simp only [Act.put, List.setIfInBounds_toArray, List.set_cons_succ, List.set_cons_zero]
      generalize v 0 = v0
      generalize v 1 = v1
      generalize v 2 = v2
      generalize v 3 = v3
      generalize v 4 = v4
      generalize v 5 = v5
      generalize v 6 = v6
      generalize v 7 = v7
      generalize v 8 = v8
      generalize v 9 = v9
      generalize v 10 = v10
      generalize v 11 = v11
      generalize v 12 = v12
      generalize v 13 = v13
      generalize v 14 = v14
      generalize v 15 = v15
      go_wp2
      exact bodyPost_ret (v := .agg #[.bool al, .slice ao rs.length ac, .slice bo P2.length bc]) (by simp [results, Tryz.results14, go_sem, y0, y1, y2]) rfl ⟨⟨ao, ac, bo, bc, rfl, (unhide HH).2.1, (unhide HH).2.2⟩, (unhide HH).1⟩
end Go.Proofs.YtldmfdkmkjiabaaGreat
