/-
  chancellaw8.EntsOrder: the walk.
-/
import Derived.Test.YtifkkhngibjalaaEoA
import Derived.Test.YtifkkhngibjalaaEfoP
import Derived.Test.YtifkkhngibjalaaElC
import Derived.Test.YtifkkhngibjalaaEsA
namespace Go.Proofs.Ytifkkhngibjalaa
open Go.RowKit Go.Sort

/-- A row of entities in memory. -/
structure OrdR (wr : World) (ao : Option Addr) (cap : Nat) (es : List E4) (ps : List EntP) : Prop where
  row : RowG wr ao 4 (es.map E4.cells)
  cap : es.length ≤ cap
  all : AllEnt wr (fun _ => True) es ps
theorem OrdR.below {w w' : World} {ao : Option Addr} {cap : Nat} {es : List E4} {ps : List EntP} (h : OrdR w ao cap es ps) (hb : Below w.heap.size w w') : OrdR w' ao cap es ps := ⟨h.row.below hb, h.cap, h.all.below hb⟩
theorem ordR_nil (w : World) : OrdR w none 0 [] [] := ⟨rowG_nil _ _ _, Nat.le_refl _, rfl, fun _ h => absurd h (Nat.not_lt_zero _)⟩
theorem ordR_put {es : List E4} {ps : List EntP} {ao : Option Addr} {cap : Nat} {e : E4} {p : EntP} {w : World} (h : OrdR w ao cap es ps) (he : IsEnt w (fun _ => True) e p) (hri : RisingP ps) (hf : ∀ q ∈ ps, q.fits) (hp : p.fits) (hl : ps.length ≤ 1000000) :
    Calls Try.prog 12 #[.slice ao es.length cap, e.val] w fun x w' => Below w.heap.size w w' ∧ ∃ ao' cap' es', x = .returned (.slice ao' (List.length es') cap') ∧ OrdR w' ao' cap' es' (putP ps p) := by
  refine (eput_any es ps ao cap e p w h.row h.cap h.all he hri hf hp hl).mono ?_
  rintro x w' ⟨hb, G, es', rfl, hrow, hall, _⟩
  refine ⟨hb, some ⟨G, 0, none⟩, (putP ps p).length, es', by rw [hall.1], hrow, by rw [hall.1]; exact Nat.le_refl _, hall⟩

set_option maxHeartbeats 40000000 in
set_option maxRecDepth 1000000 in
theorem eorder_walk (lo : Option Addr) (rs : List EntR) (lc : Nat) (w : World) (hl : rs.length ≤ 9223372036854775807) (hr : RowEnt w lo rs) :
    Calls Try.prog 4 #[.slice lo rs.length lc] w fun e w' => e = .returned (.bool true) ∧ Below w.heap.size w w' := by
  have K := known8_any w
  go_enter Try.func4, Try.ntmps4
  go_wp2_with fail
  refine K.mono ?_
  clear K
  rintro x w1 ⟨rfl, b1⟩
  by_cases h12 : 12 < rs.length
  · have i12 : (12 : Int) < (rs.length : Int) := by omega
    go_wp2
    go_ret
    exact ⟨rfl, b1⟩
  have i12 : ¬ (12 : Int) < (rs.length : Int) := by omega
  have HR := hide (hr.below b1)
  obtain ⟨L, hL⟩ : ∃ L, L = rs.map entP := ⟨_, rfl⟩
  have hLl : L.length = rs.length := by rw [hL]; simp
  have HL := hide hL
  have HLf : Hid (∀ p ∈ L, p.fits) := hide (by
    rw [hL]
    intro p hp
    obtain ⟨r, _, rfl⟩ := List.mem_map.1 hp
    exact entP_fits r)
  have HLl := hide hLl
  clear hr hL hLl
  go_wp2
  go_loopw [3, 5] (fun av iv wr => ∃ (i : Nat) (es : List E4) (ao : Option Addr) (cap : Nat), i ≤ rs.length ∧ iv = .int .i64 i ∧ av = .slice ao es.length cap ∧ Below w1.heap.size w1 wr ∧ OrdR wr ao cap es (aOf (L.take i))) (fun _ iv _ => rs.length - (intOf iv).toNat)
  case atStart => exact ⟨0, [], none, 0, Nat.zero_le _, rfl, rfl, Below.refl _ _, ordR_nil _⟩
  case round =>
    obtain ⟨i, es, ao, cap, hi, rfl, rfl, hbw, hO⟩ := hrel
    by_cases hlt : i < rs.length
    · have i1 : (i : Int) < (rs.length : Int) := by omega
      have k0 : (0 : Int) ≤ (i : Int) := by omega
      obtain ⟨b, off, rfl, hb, hcell⟩ := rowG_at (unhide HR).1 hbw hlt
      have EN := entity5_any rs[i] wr (((unhide HR).2 _ (List.getElem_mem _)).below hbw)
      have hLi : i < L.length := by rw [unhide HLl]; exact hlt
      have hLp : L[i] = entP rs[i] := by
        have := unhide HL
        subst this
        simp
      have htk : aOf (L.take (i + 1)) = putP (aOf (L.take i)) L[i] := by rw [List.take_succ_eq_append_getElem hLi, aOf_snoc]
      rw [hLp] at htk
      obtain ⟨r, hrr⟩ : ∃ r, r = rs[i] := ⟨_, rfl⟩
      rw [← hrr] at hcell EN htk
      have c0 := hcell 0 _ rfl
      have c1 := hcell 1 _ rfl
      have c2 := hcell 2 _ rfl
      have c3 := hcell 3 _ rfl
      have c4 := hcell 4 _ rfl
      rw [Nat.add_zero] at c0
      have Htk := hide htk
      have HO := hide hO
      clear hcell hrr hLp htk hO
      unfold EntR.val at EN
      go_wp2_with fail
      clear c0 c1 c2 c3 c4
      refine EN.mono ?_
      clear EN
      rintro x w3 ⟨b3, e, rfl, he⟩
      have b03 := hbw.trans (b3.mono hbw.size)
      have PU := ordR_put ((unhide HO).below b3) he (rising_a _) (aOf_fits _ (fun p hp => unhide HLf p (List.mem_of_mem_take hp))) (entP_fits r) (by have := aOf_len (L.take i); rw [List.length_take] at this; omega)
      rw [← unhide Htk] at PU
      unfold E4.val at PU
      unfold E4.val
      clear he
      go_wp2_with fail
      refine PU.mono ?_
      clear PU
      rintro x w4 ⟨b4, ao', cap', es', rfl, hO'⟩
      have b04 := b03.trans (b4.mono b03.size)
      have HO' := hide hO'
      clear hO'
      go_wp2
      go_roundw
      case rel => exact ⟨i + 1, es', ao', cap', by omega, by go_num, rfl, b04, unhide HO'⟩
      case measure =>
        simp only [intOf]
        omega
    · obtain rfl : i = rs.length := by omega
      have i1 : ¬ (rs.length : Int) < (rs.length : Int) := by omega
      have hO1 : OrdR wr ao cap es (aOf L) := by
        have := hO
        rwa [List.take_of_length_le (by rw [unhide HLl]; exact Nat.le_refl _)] at this
      have b01 := b1.trans (hbw.mono b1.size)
      have HOA := hide hO1
      have HR2 := hide ((unhide HR).below hbw)
      clear hO hO1 HR
      obtain ⟨esA, hesA⟩ : ∃ x, x = es := ⟨_, rfl⟩
      obtain ⟨aoA, haoA⟩ : ∃ x, x = ao := ⟨_, rfl⟩
      obtain ⟨capA, hcapA⟩ : ∃ x, x = cap := ⟨_, rfl⟩
      rw [← hesA, ← haoA, ← hcapA] at HOA
      rw [← hesA, ← haoA, ← hcapA]
      clear hesA haoA hcapA
      obtain ⟨w5, hw5⟩ : ∃ w5, w5 = wr := ⟨_, rfl⟩
      rw [← hw5] at HOA HR2 b01
      rw [← hw5]
      clear hbw hw5
      go_wp2
      go_loopw [4, 6] (fun bv iv wr => ∃ (k : Nat) (es : List E4) (ao : Option Addr) (cap : Nat), k ≤ rs.length ∧ iv = .int .i64 ((k : Int) - 1) ∧ bv = .slice ao es.length cap ∧ Below w5.heap.size w5 wr ∧ OrdR wr ao cap es (bOf (L.drop k))) (fun _ iv _ => (intOf iv + 1).toNat)
      case atStart => exact ⟨rs.length, [], none, 0, Nat.le_refl _, rfl, rfl, Below.refl _ _, by rw [List.drop_eq_nil_of_le (by rw [unhide HLl]; exact Nat.le_refl _)]; exact ordR_nil _⟩
      case round =>
        obtain ⟨k, es, ao, cap, hk, rfl, rfl, hbw, hO⟩ := hrel
        by_cases hlt : 0 < k
        · obtain ⟨m, rfl⟩ : ∃ m, k = m + 1 := ⟨k - 1, by omega⟩
          have em : (((m + 1 : Nat) : Int) - 1) = (m : Int) := by omega
          rw [em]
          clear em
          have i1 : (m : Int) < (rs.length : Int) := by omega
          have k0 : (0 : Int) ≤ (m : Int) := by omega
          have hm : m < rs.length := by omega
          obtain ⟨b, off, rfl, hb, hcell⟩ := rowG_at (unhide HR2).1 hbw hm
          have EN := entity5_any rs[m] wr (((unhide HR2).2 _ (List.getElem_mem _)).below hbw)
          have hLm : m < L.length := by rw [unhide HLl]; exact hm
          have hLp : L[m] = entP rs[m] := by
            have := unhide HL
            subst this
            simp
          have hdr : L.drop m = entP rs[m] :: L.drop (m + 1) := by rw [List.drop_eq_getElem_cons hLm, hLp]
          obtain ⟨r, hrr⟩ : ∃ r, r = rs[m] := ⟨_, rfl⟩
          rw [← hrr] at hcell EN hdr
          have c0 := hcell 0 _ rfl
          have c1 := hcell 1 _ rfl
          have c2 := hcell 2 _ rfl
          have c3 := hcell 3 _ rfl
          have c4 := hcell 4 _ rfl
          rw [Nat.add_zero] at c0
          have Hdr := hide hdr
          have HO := hide hO
          clear hcell hrr hLp hdr hO
          unfold EntR.val at EN
          go_wp2_with fail
          clear c0 c1 c2 c3 c4
          refine EN.mono ?_
          clear EN
          rintro x w3 ⟨b3, e, rfl, he⟩
          have b03 := hbw.trans (b3.mono hbw.size)
          unfold E4.val
          have b4 := below1 w3 (.cells #[.string e.t, .string e.i, .slice e.po e.pl e.pc, .slice e.ao e.al e.ac] 34)
          have z4 := size1 w3 (.cells #[.string e.t, .string e.i, .slice e.po e.pl e.pc, .slice e.ao e.al e.ac] 34)
          have A4 : AtE4 (w3.alloc (.cells #[.string e.t, .string e.i, .slice e.po e.pl e.pc, .slice e.ao e.al e.ac] 34)) w3.heap.size 0 e := ⟨by simp, by simp, by simp, by simp⟩
          have b04 := b03.trans (b4.mono b03.size)
          have hO4 := ((unhide HO).below b3).below b4
          have he4 := he.below b4
          have hbl : (bOf (L.drop (m + 1))).length ≤ 1000000 := by
            have := bOf_len (L.drop (m + 1))
            rw [List.length_drop, unhide HLl] at this
            omega
          have hbf := bOf_fits _ (fun p hp => unhide HLf p (List.mem_of_mem_drop hp) : ∀ p ∈ L.drop (m + 1), p.fits)
          have FI := efind_any es (bOf (L.drop (m + 1))) ao cap (e4u e) _ hO4.row hO4.all (rising_b _) hbf hbl
          have hue : e4u e = (entP r).u := he.u
          have hbo : bOf (L.drop m) = if (findP (bOf (L.drop (m + 1))) (e4u e)).isSome then bOf (L.drop (m + 1)) else putP (bOf (L.drop (m + 1))) (entP r) := by
            rw [unhide Hdr, hue]
            rfl
          have Hbo := hide hbo
          unfold U2.val e4u at FI
          simp only at FI
          have HO4 := hide hO4
          have He4 := hide he4
          have Hbf := hide hbf
          have Hbl := hide hbl
          clear hO4 he4 he hue hbo hbf hbl
          obtain ⟨a0, a1, a2, a3⟩ := A4
          simp only [Nat.zero_add] at a1 a2 a3
          go_upto_region 14 with fail
          have A4 : AtE4 (w3.alloc (.cells #[.string e.t, .string e.i, .slice e.po e.pl e.pc, .slice e.ao e.al e.ac] 34)) w3.heap.size 0 e := ⟨a0, a1, a2, a3⟩
          obtain ⟨V, hV⟩ : ∃ V, V = w3.heap.size := ⟨_, rfl⟩
          rw [← hV] at A4 z4 a0 a1 a2 a3 ⊢
          clear hV
          generalize w3.alloc _ = w4 at *
          go_wp2_with fail
          clear a0 a1 a2 a3
          refine FI.mono ?_
          clear FI
          rintro x w6 ⟨b6, hx⟩
          have b06 := b04.trans (b6.mono b04.size)
          have A6 := A4.below b6 (by omega)
          have HO6 := hide ((unhide HO4).below b6)
          have He6 := hide ((unhide He4).below b6)
          clear HO4 He4 A4
          cases hfn : findP (bOf (L.drop (m + 1))) (e4u e) with
          | some q =>
            have hfn' : findP (bOf (L.drop (m + 1))) ⟨e.t, e.i⟩ = some q := hfn
            rw [hfn'] at hx
            obtain ⟨e', rfl, _⟩ := hx
            have hb2 := unhide Hbo
            rw [hfn] at hb2
            have Hb2 : Hid (bOf (L.drop m) = bOf (L.drop (m + 1))) := hide (by rw [hb2]; rfl)
            have b7 := b06.alloc b06.size (.cells #[.string e'.t, .string e'.i, .slice e'.po e'.pl e'.pc, .slice e'.ao e'.al e'.ac] 34)
            have HO7 := hide ((unhide HO6).below (below1 w6 (.cells #[.string e'.t, .string e'.i, .slice e'.po e'.pl e'.pc, .slice e'.ao e'.al e'.ac] 34)))
            unfold E4.val
            clear hb2 hfn hfn' A6 HO6
            go_wp2
            go_roundw
            case rel => exact ⟨m, es, ao, cap, by omega, rfl, rfl, b7, by rw [unhide Hb2]; exact unhide HO7⟩
            case measure =>
              simp only [intOf]
              omega
          | none =>
            have hfn' : findP (bOf (L.drop (m + 1))) ⟨e.t, e.i⟩ = none := hfn
            rw [hfn'] at hx
            obtain rfl : x = .returned (.tuple #[zeroE.val, .bool false]) := hx
            have hb2 := unhide Hbo
            rw [hfn] at hb2
            have Hb2 : Hid (bOf (L.drop m) = putP (bOf (L.drop (m + 1))) (entP r)) := hide (by rw [hb2]; rfl)
            have b67 := below1 w6 (.cells #[.string ⟨#[]⟩, .string ⟨#[]⟩, .slice none 0 0, .slice none 0 0] 34)
            have b7 := b06.trans (b67.mono b06.size)
            have PU := ordR_put ((unhide HO6).below b67) ((unhide He6).below b67) (rising_b _) (unhide Hbf) (entP_fits r) (unhide Hbl)
            rw [← unhide Hb2] at PU
            unfold E4.val at PU
            obtain ⟨a0, a1, a2, a3⟩ := A6.below b67 (by have := b6.size; omega)
            simp only [Nat.zero_add] at a1 a2 a3
            unfold zeroE E4.val
            simp only
            clear hb2 hfn hfn' A6 HO6 He6
            go_wp2_with fail
            clear a0 a1 a2 a3
            generalize w6.alloc _ = w7 at *
            refine PU.mono ?_
            clear PU
            rintro x w8 ⟨b8, ao', cap', es', rfl, hO'⟩
            have b08 := b7.trans (b8.mono b7.size)
            have HO' := hide hO'
            clear hO'
            go_wp2
            go_roundw
            case rel => exact ⟨m, es', ao', cap', by omega, rfl, rfl, b08, unhide HO'⟩
            case measure =>
              simp only [intOf]
              omega
        · obtain rfl : k = 0 := by omega
          rw [show ((0 : Nat) : Int) - 1 = -1 from rfl]
          have hOB : OrdR wr ao cap es (bOf L) := hO
          rw [← a_eq_b] at hOB
          have hOA := (unhide HOA).below hbw
          have hle : es.length = esA.length := by rw [hOB.all.1, hOA.all.1]
          have b05 := b01.trans (hbw.mono b01.size)
          have hAf := aOf_fits L (unhide HLf)
          have hAr := rising_a L
          have hAl := aOf_len L
          rw [unhide HLl] at hAl
          have hAn : esA.length = (aOf L).length := hOA.all.1
          have HLE := hide hle
          have HOB := hide hOB
          have HOA2 := hide hOA
          have HAf := hide hAf
          have HAr := hide hAr
          have HAn := hide hAn
          have hAl2 : esA.length ≤ 12 := by omega
          rw [hle]
          clear hO hOB hOA HOA HR2 hbw hle hAf hAr hAn hAl
          go_wp2
          obtain ⟨w6, hw6⟩ : ∃ w6, w6 = wr := ⟨_, rfl⟩
          rw [← hw6] at HOB HOA2 b05
          rw [← hw6]
          clear hw6
          go_loopw [10] (fun iv wr => ∃ i : Nat, i ≤ esA.length ∧ iv = .int .i64 i ∧ Below w6.heap.size w6 wr) (fun iv _ => esA.length - (intOf iv).toNat)
          case atStart => exact ⟨0, Nat.zero_le _, rfl, Below.refl _ _⟩
          case round =>
            obtain ⟨j, hj, rfl, hbw⟩ := hrel
            by_cases hlt : j < esA.length
            · have i1 : (j : Int) < (esA.length : Int) := by omega
              have k0 : (0 : Int) ≤ (j : Int) := by omega
              have hjB : j < es.length := by rw [unhide HLE]; exact hlt
              have hjP : j < (aOf L).length := by rw [← unhide HAn]; exact hlt
              have hOA := (unhide HOA2).below hbw
              have hOB := (unhide HOB).below hbw
              obtain ⟨bA, offA, rfl, hbA, hcA⟩ := rowG_at hOA.row (Below.refl _ wr) hlt
              obtain ⟨bB, offB, rfl, hbB, hcB⟩ := rowG_at hOB.row (Below.refl _ wr) hjB
              have SA := fun d os => esame_true esA[j] es[j] (aOf L)[j] _ _ (grow (redrawn wr d) os) ((hOA.all.2 j hlt hjP).below (below_regrown wr d os)) ((hOB.all.2 j hjB hjP).below (below_regrown wr d os)) (unhide HAf _ (List.getElem_mem _))
              have A := (AtE4.of hcA).up
              have B := (AtE4.of hcB).up
              have PV := fun (h : j - 1 < esA.length) => rowG_at hOA.row (Below.refl _ wr) h
              have LS : ∀ (h : j - 1 < esA.length), 0 < j → lessU (e4u esA[j - 1]) (e4u esA[j]) = true := fun h hp => by
                have h1 : j - 1 < (aOf L).length := by omega
                have e1 : e4u esA[j - 1] = (aOf L)[j - 1].u := (hOA.all.2 (j - 1) h h1).u
                have e2 : e4u esA[j] = (aOf L)[j].u := (hOA.all.2 j hlt hjP).u
                rw [e1, e2]
                have := List.pairwise_iff_getElem.1 (unhide HAr) (j - 1) j (by simpa using h1) (by simpa using hjP) (by omega)
                simpa using this
              obtain ⟨x, hx⟩ : ∃ x, x = esA[j] := ⟨_, rfl⟩
              obtain ⟨y, hy⟩ : ∃ y, y = es[j] := ⟨_, rfl⟩
              rw [← hx] at A SA LS
              rw [← hy] at B SA
              have HPV := hide PV
              have HLS := hide LS
              clear hx hy hcA hcB PV LS hOA hOB
              unfold E4.val at SA
              have cS := fun d os => Calls.regrown_of (w := wr) (d := d) (os := os) (SA d os)
              clear SA
              obtain ⟨a0, a1, a2, a3⟩ := A
              obtain ⟨d0, d1, d2, d3⟩ := B
              by_cases hj0 : j = 0
              · subst hj0
                simp only [Nat.zero_mul, Nat.add_zero] at a0 a1 a2 a3 d0 d1 d2 d3
                go_wp2_with fail
                refine wp_region_quiet_below (by kernel_rfl) (by kernel_rfl) ?_
                repeat (first | go_big_quiet_skip | quiet_step (exact cS _ _))
                refine wpQuiet_nil ?_
                intro _ hw'
                obtain ⟨⟨dq, osq⟩, hw''⟩ := hw'
                subst hw''
                have b7 := hbw.trans ((below_regrown wr dq osq).mono hbw.size)
                generalize grow (redrawn wr dq) osq = w7 at *
                clear a0 a1 a2 a3 d0 d1 d2 d3 cS
                go_wp2
                go_roundw
                case rel => exact ⟨1, by omega, by go_num, b7⟩
                case measure =>
                  simp only [intOf]
                  omega
              · have hp : 0 < j := by omega
                have hpl : j - 1 < esA.length := by omega
                obtain ⟨b', off', e', hb', hcP⟩ := unhide HPV hpl
                cases e'
                have Pq := (AtE4.of hcP).up
                have hless := unhide HLS hpl hp
                obtain ⟨p, hpx⟩ : ∃ p, p = esA[j - 1] := ⟨_, rfl⟩
                rw [← hpx] at Pq hless
                clear hpx hcP HPV HLS
                have LU := fun w' => r3lessUid_any p.t.data.toList p.i.data.toList x.t.data.toList x.i.data.toList w'
                rw [ba_of, ba_of, ba_of, ba_of] at LU
                have hlp : lessP (.uid p.t.data.toList p.i.data.toList) (.uid x.t.data.toList x.i.data.toList) = true := hless
                rw [hlp] at LU
                clear hlp hless
                have cL := fun d os => Calls.regrown_of (w := wr) (d := d) (os := os) (LU (grow (redrawn wr d) os))
                clear LU
                obtain ⟨p0, p1, p2, p3⟩ := Pq
                have ej : (j : Int) - 1 = ((j - 1 : Nat) : Int) := by omega
                have hg : decide ((0 : Int) < (j : Int)) = true := decide_eq_true (by omega)
                have ew : IntKind.i64.wrap ((j - 1 : Nat) : Int) = ((j - 1 : Nat) : Int) := by rw [IntKind.wrap_i64]; omega
                have q0 : (0 : Int) ≤ ((j - 1 : Nat) : Int) := by omega
                have q1 : ((j - 1 : Nat) : Int) < (esA.length : Int) := by omega
                go_wp2_with fail
                refine wp_region_quiet_below (by kernel_rfl) (by kernel_rfl) ?_
                repeat (first | go_big_quiet_skip | quiet_step (first | exact cS _ _ | exact cL _ _))
                refine wpQuiet_nil ?_
                intro _ hw'
                obtain ⟨⟨dq, osq⟩, hw''⟩ := hw'
                subst hw''
                have b7 := hbw.trans ((below_regrown wr dq osq).mono hbw.size)
                generalize grow (redrawn wr dq) osq = w7 at *
                clear a0 a1 a2 a3 d0 d1 d2 d3 cS cL p0 p1 p2 p3
                go_wp2
                go_roundw
                case rel => exact ⟨j + 1, by omega, by go_num, b7⟩
                case measure =>
                  simp only [intOf]
                  omega
            · have i1 : ¬ (j : Int) < (esA.length : Int) := by omega
              go_wp2
              go_ret
              exact ⟨rfl, b05.trans (hbw.mono b05.size)⟩
end Go.Proofs.Ytifkkhngibjalaa
