/-
  chancellaw9.AboveChain: the walk.
-/
import Derived.Test.YthmmplmppchfmaaAiPQ
import Derived.Test.YthmmplmppchfmaaMqKW
import Derived.Test.YthmmplmppchfmaaGdAE
namespace Go.Proofs.Ythmmplmppchfmaa
open Go.RowKit Go.Sort

set_option maxHeartbeats 16000000 in
set_option maxRecDepth 1000000 in
theorem achain_walk (n0 at_ : Int) (ring : Bool) (w : World) :
    Calls Try.prog 4 #[.int .i64 n0, .int .i64 at_, .bool ring] w fun e w' => e = .returned (.bool true) ∧ Below w.heap.size w w' := by
  obtain ⟨iE, hiE, ez0, ez1, ez2⟩ := info_parts infoEntG
  have C0 := known9_any w
  go_enter Try.func4, Try.ntmps4
  go_wp2_with fail
  refine C0.mono ?_
  clear C0
  rintro e w1 ⟨rfl, b1⟩
  obtain ⟨m, hm⟩ : ∃ m : Nat, (m : Int) = n0 % 13 := ⟨(n0 % 13).toNat, by omega⟩
  have WI := within9_any n0 13 (by decide) (by decide) w1
  rw [← hm] at WI
  have hm13 : m < 13 := by omega
  clear hm
  go_wp2_with fail
  refine WI.mono ?_
  clear WI
  rintro e w2 ⟨rfl, hw2⟩
  subst hw2
  go_upto_region 4 with fail
  have hn2 : (2 + (m : Int)) = ((m + 2 : Nat) : Int) := by omega
  rw [hn2]
  clear hn2
  obtain ⟨n, hn⟩ : ∃ n, n = m + 2 := ⟨_, rfl⟩
  rw [← hn]
  have hn14 : 2 ≤ n ∧ n ≤ 14 := by omega
  have HN := hide hn14
  clear hn hm13
  have hn14 : n ≤ 14 := (unhide HN).2
  have HB0 := hide b1
  clear b1
  go_wp2
  go_loopw [7, 8] (fun lv iv wr => ∃ (es : List E4) (i : Nat), iv = .int .i64 i ∧ i ≤ n ∧ es.length = i ∧ Below w2.heap.size w2 wr ∧ ChM wr n ring es ∧ wr.ownsRow w2.heap.size 40 4 lv es.length (es.map E4.cells).flatten) (fun _ iv _ => n - (intOf iv).toNat)
  case atStart => exact ⟨[], 0, by go_num, Nat.zero_le _, rfl, Below.refl _ _, ⟨fun j hj => absurd hj (Nat.not_lt_zero _)⟩, World.ownsRow_nil _ _ _ _⟩
  case round =>
    rename World => wr
    obtain ⟨es, i, rfl, hi, hle, hbw, hm, how⟩ := hrel
    have HLE := hide hle
    have HBW := hide hbw
    have HM := hide hm
    have HO := hide how
    clear hle hbw hm how
    have k0 : (0 : Int) ≤ (i : Int) := by omega
    by_cases hlt : i < n
    · have k1 : (i : Int) < (n : Int) := by omega
      have hi14 : i < 14 := by omega
      have HI14 := hide hi14
      have e97 : wrap64 (97 + (i : Int)) = 97 + (i : Int) := by unfold wrap64; omega
      have u97 : IntKind.u8.wrap (97 + (i : Int)) = 97 + (i : Int) := by rw [IntKind.wrap_u8]; omega
      have hcv := conv_c i wr.heap.size (wr.alloc (.cells #[.int .u8 (97 + (i : Int))] 5)) (by omega) (alloc_heap _ _)
      obtain ⟨bab, _, hpp⟩ := ac2 wr (.cells #[.int .u8 (97 + (i : Int))] 5) (.cells #[.string ⟨#[84]⟩, .string (cU i).i, .slice none 0 0, .slice none 0 0] 40)
      have HO3 := hide (own_keptA (unhide HO) fun g _ hg => bab.block g hg)
      have HM3 := hide ((unhide HM).below bab)
      have HB3 := hide ((unhide HBW).trans (bab.mono (unhide HBW).size))
      have HP3 := hide hpp
      obtain ⟨P, hP⟩ : ∃ P, P = wr.heap.size + 1 := ⟨_, rfl⟩
      have HPS := hide hP
      rw [← hP] at HP3
      have hPw : w2.heap.size ≤ P := by rw [hP]; exact Nat.le_succ_of_le (unhide HBW).size
      have HPW := hide hPw
      have HGP := hide (show ∀ g, u7.ownBlock = some g → g ≠ P from fun g e => by
        have := ((unhide HO).lt g e).2
        omega)
      clear hpp bab hP hPw HO HM HBW
      go_upto_region 9 with fail
      rw [← unhide HPS]
      clear hcv HPS
      generalize (wr.alloc _).alloc _ = w3 at *
      have HO := HO3
      have HM := HM3
      have HBW := HB3
      have HPP := HP3
      clear HO3 HM3 HB3 HP3 e97 u97
      have e1n : wrap64 ((i : Int) + 1) = ((i + 1 : Nat) : Int) := by unfold wrap64; omega
      by_cases h1n : i + 1 < n
      · have k2 : ((i + 1 : Nat) : Int) < (n : Int) := by omega
        have hcp : cPs n ring i = [cU (i + 1)] := by
          unfold cPs
          rw [if_pos h1n]
        have HCP := hide hcp
        have e98 : wrap64 (98 + (i : Int)) = 98 + (i : Int) := by unfold wrap64; omega
        have u98 : IntKind.u8.wrap (98 + (i : Int)) = 98 + (i : Int) := by rw [IntKind.wrap_u8]; omega
        have hcv := conv_c (i + 1) w3.heap.size (w3.alloc (.cells #[.int .u8 (98 + (i : Int))] 5)) (by omega) (by rw [show (97 + (((i + 1 : Nat)) : Int)) = 98 + (i : Int) by omega]; exact alloc_heap _ _)
        obtain ⟨bab, _, hq9⟩ := ac2 w3 (.cells #[.int .u8 (98 + (i : Int))] 5) (.cells #[.string ⟨#[84]⟩, .string (cU (i + 1)).i] 28)
        have hp9 := kept_of_below bab (unhide HPP)
        have HO3 := hide (own_keptA (unhide HO) fun g _ hg => bab.block g hg)
        have HM3 := hide ((unhide HM).below bab)
        have HB3 := hide ((unhide HBW).trans (bab.mono (unhide HBW).size))
        obtain ⟨Q, hQ⟩ : ∃ Q, Q = w3.heap.size + 1 := ⟨_, rfl⟩
        have HQS := hide hQ
        rw [← hQ] at hq9
        have hPQ : P ≠ Q := fun e => by
          have h1 := (Array.getElem?_eq_some_iff.1 (unhide HPP)).1
          omega
        have p2 : ((w3.alloc (.cells #[.int .u8 (98 + (i : Int))] 5)).alloc (.cells #[.string ⟨#[84]⟩, .string (cU (i + 1)).i] 28)).cell? ⟨P, 2, none⟩ = some (.slice none 0 0) := by rw [Lib.cell_of_heap hp9]; rfl
        have pf : ((w3.alloc (.cells #[.int .u8 (98 + (i : Int))] 5)).alloc (.cells #[.string ⟨#[84]⟩, .string (cU (i + 1)).i] 28)).frozen? ⟨P, 2, none⟩ = false := Lib.frozen_of_heap hp9 2
        have HP9 := hide (heap_setCell_same _ P 2 _ _ (.slice (some ⟨Q, 0, none⟩) 1 1) hp9)
        have HQ9 := hide ((Below.heap_setCell ((w3.alloc (.cells #[.int .u8 (98 + (i : Int))] 5)).alloc (.cells #[.string ⟨#[84]⟩, .string (cU (i + 1)).i] 28)) ⟨P, 2, none⟩ (.slice (some ⟨Q, 0, none⟩) 1 1) Q (Ne.symm hPQ)).trans hq9)
        have HO9 := hide (own_keptA (unhide HO3) fun g eg _ => Below.heap_setCell ((w3.alloc (.cells #[.int .u8 (98 + (i : Int))] 5)).alloc (.cells #[.string ⟨#[84]⟩, .string (cU (i + 1)).i] 28)) ⟨P, 2, none⟩ (.slice (some ⟨Q, 0, none⟩) 1 1) g (fun e => by
          have e : g = P := e
          exact unhide HGP g eg e))
        have HM9 := hide ((unhide HM3).keep (w' := ((w3.alloc (.cells #[.int .u8 (98 + (i : Int))] 5)).alloc (.cells #[.string ⟨#[84]⟩, .string (cU (i + 1)).i] 28)).setCell ⟨P, 2, none⟩ (.slice (some ⟨Q, 0, none⟩) 1 1)) fun R c hR => (Below.heap_setCell ((w3.alloc (.cells #[.int .u8 (98 + (i : Int))] 5)).alloc (.cells #[.string ⟨#[84]⟩, .string (cU (i + 1)).i] 28)) ⟨P, 2, none⟩ (.slice (some ⟨Q, 0, none⟩) 1 1) R (fun e => by
          have e : R = P := e
          rw [e, hp9] at hR
          injection hR with hR
          injection hR with _ hR
          exact absurd hR (show 40 ≠ 28 by decide))).trans hR)
        have HB9 := hide ((unhide HB3).setCell (p := ⟨P, 2, none⟩) (unhide HPW) (.slice (some ⟨Q, 0, none⟩) 1 1))
        clear bab hp9 hq9 hPQ HO3 HM3 HB3 HO HM HBW HPP hQ hcp
        go_upto_region 13 with fail
        rw [← unhide HQS]
        generalize ((w3.alloc _).alloc _).setCell _ _ = w4 at *
        have HO := HO9
        have HM := HM9
        have HBW := HB9
        have HPP := HP9
        clear HO9 HM9 HB9 HP9 hcv HQS e98 u98 p2 pf e1n k2
        have hPP := unhide HPP
        have p0 : w4.cell? ⟨P, 0, none⟩ = some (.string ⟨#[84]⟩) := by rw [Lib.cell_of_heap hPP]; rfl
        have p1 : w4.cell? ⟨P, 1, none⟩ = some (.string (cU i).i) := by rw [Lib.cell_of_heap hPP]; rfl
        have p2 : w4.cell? ⟨P, 2, none⟩ = some (.slice (some ⟨Q, 0, none⟩) 1 1) := by rw [Lib.cell_of_heap hPP]; rfl
        have p3 : w4.cell? ⟨P, 3, none⟩ = some (.slice none 0 0) := by rw [Lib.cell_of_heap hPP]; rfl
        have b4 := ac1 w4 (.cells #[.string ⟨#[84]⟩, .string (cU i).i, .slice (some ⟨Q, 0, none⟩) 1 1, .slice none 0 0] 40)
        have h4 := alloc_heap w4 (.cells #[.string ⟨#[84]⟩, .string (cU i).i, .slice (some ⟨Q, 0, none⟩) 1 1, .slice none 0 0] 40)
        have HO4 := hide (own_keptA (unhide HO) fun g _ hg => b4.block g hg)
        have HM4 := hide ((unhide HM).below b4)
        have HC4 := hide ((⟨rfl, by rw [unhide HCP]; rfl, .inr ⟨Q, cU (i + 1), unhide HCP, rfl, unhide HQ9⟩, rfl, rfl⟩ : ChOne w4 n ring i ⟨⟨#[84]⟩, (cU i).i, (some ⟨Q, 0, none⟩), 1, 1, none, 0, 0⟩).keep fun Q c hq => kept_of_below b4 hq)
        have HB4 := hide ((unhide HBW).trans (b4.mono (unhide HBW).size))
        have hb4 : w2.heap.size ≤ (w4.alloc (.cells #[.string ⟨#[84]⟩, .string (cU i).i, .slice (some ⟨Q, 0, none⟩) 1 1, .slice none 0 0] 40)).heap.size := (unhide HB4).size
        clear hPP b4 HO HM HBW HPP
        go_wp2_with (at_builtin; refine wpList_append_own_at _ rfl _ _ 25 rfl w2.heap.size 40 iE _ 4 80 Try.underlying25 hiE ez0 ez1 ez2 rfl (by decide) _ _ _ rfl (unhide HO4) ⟨w4.heap.size, 0, none⟩ 1 1 [.string ⟨#[84]⟩, .string (cU i).i, .slice (some ⟨Q, 0, none⟩) 1 1, .slice none 0 0] rfl rfl ?p1 ?p2 ?p3 ?p4 ?p5 ?_)
        case p1 =>
          intro c u hu
          rw [Addr.add_lit, Nat.zero_add, Lib.cell_of_heap h4]
          simpa using hu
        case p2 =>
          intro u hu
          simp only [List.mem_cons, List.not_mem_nil, or_false] at hu
          rcases hu with rfl | rfl | rfl | rfl <;> rfl
        case p3 => have := unhide HLE; unfold maxLen; omega
        case p4 => have := unhide HLE; omega
        case p5 => exact hb4
        intro v5 w5 ho5 hg5 _ _
        have HB5 := hide (show Below w2.heap.size w2 w5 from (unhide HB4).grown hg5 (unhide HB4).size (fun g e => ((unhide HO4).lt g e).1))
        have hk5 : ∀ (R : Nat) (c : Array Value), (w4.alloc (.cells #[.string ⟨#[84]⟩, .string (cU i).i, .slice (some ⟨Q, 0, none⟩) 1 1, .slice none 0 0] 40)).heap[R]? = some (.cells c 28 (0, 0)) → w5.heap[R]? = some (.cells c 28 (0, 0)) := fun R c hq => (hg5.block R (Array.getElem?_eq_some_iff.1 hq).1 (fun e => own_notA (show 40 ≠ 28 by decide) (unhide HO4) hq e.symm)).trans hq
        have HM5 := hide (((unhide HM4).keep hk5).snoc (e := ⟨⟨#[84]⟩, (cU i).i, (some ⟨Q, 0, none⟩), 1, 1, none, 0, 0⟩) (by rw [unhide HLE]; exact (unhide HC4).keep hk5))
        have HO5 := hide (show w5.ownsRow w2.heap.size 40 4 v5 (es ++ [(⟨⟨#[84]⟩, (cU i).i, (some ⟨Q, 0, none⟩), 1, 1, none, 0, 0⟩ : E4)]).length ((es ++ [(⟨⟨#[84]⟩, (cU i).i, (some ⟨Q, 0, none⟩), 1, 1, none, 0, 0⟩ : E4)]).map E4.cells).flatten from by
          rw [List.length_append, List.map_append, List.flatten_append]
          have := ho5
          simpa [E4.cells] using this)
        clear ho5 hg5 hk5 h4 HO4 HM4 HC4 HB4 hb4
        go_wp2
        go_roundw
        case rel => exact ⟨es ++ [⟨⟨#[84]⟩, (cU i).i, (some ⟨Q, 0, none⟩), 1, 1, none, 0, 0⟩], i + 1, by go_num, by omega, by rw [List.length_append, unhide HLE]; rfl, unhide HB5, unhide HM5, unhide HO5⟩
        case measure =>
          simp only [intOf]
          omega
      · have k2 : ¬ ((i + 1 : Nat) : Int) < (n : Int) := by omega
        cases ring with
        | true =>
          have hcp : cPs n true i = [cU 0] := by
            unfold cPs
            rw [if_neg h1n, if_pos rfl]
          have HCP := hide hcp
          have hb9 := ac1 w3 (.cells #[.string ⟨#[84]⟩, .string ⟨#[97]⟩] 28)
          have hq9 := alloc_heap w3 (.cells #[.string ⟨#[84]⟩, .string ⟨#[97]⟩] 28)
          have hp9 := kept_of_below hb9 (unhide HPP)
          have HO3 := hide (own_keptA (unhide HO) fun g _ hg => hb9.block g hg)
          have HM3 := hide ((unhide HM).below hb9)
          have HB3 := hide ((unhide HBW).trans (hb9.mono (unhide HBW).size))
          obtain ⟨Q, hQ⟩ : ∃ Q, Q = w3.heap.size := ⟨_, rfl⟩
          have HQS := hide hQ
          rw [← hQ] at hq9
          have hPQ : P ≠ Q := fun e => by
            have h1 := (Array.getElem?_eq_some_iff.1 (unhide HPP)).1
            omega
          have p2 : (w3.alloc (.cells #[.string ⟨#[84]⟩, .string ⟨#[97]⟩] 28)).cell? ⟨P, 2, none⟩ = some (.slice none 0 0) := by rw [Lib.cell_of_heap hp9]; rfl
          have pf : (w3.alloc (.cells #[.string ⟨#[84]⟩, .string ⟨#[97]⟩] 28)).frozen? ⟨P, 2, none⟩ = false := Lib.frozen_of_heap hp9 2
          have HP9 := hide (heap_setCell_same _ P 2 _ _ (.slice (some ⟨Q, 0, none⟩) 1 1) hp9)
          have HQ9 := hide ((Below.heap_setCell (w3.alloc (.cells #[.string ⟨#[84]⟩, .string ⟨#[97]⟩] 28)) ⟨P, 2, none⟩ (.slice (some ⟨Q, 0, none⟩) 1 1) Q (Ne.symm hPQ)).trans hq9)
          have HO9 := hide (own_keptA (unhide HO3) fun g eg _ => Below.heap_setCell (w3.alloc (.cells #[.string ⟨#[84]⟩, .string ⟨#[97]⟩] 28)) ⟨P, 2, none⟩ (.slice (some ⟨Q, 0, none⟩) 1 1) g (fun e => by
            have e : g = P := e
            exact unhide HGP g eg e))
          have HM9 := hide ((unhide HM3).keep (w' := (w3.alloc (.cells #[.string ⟨#[84]⟩, .string ⟨#[97]⟩] 28)).setCell ⟨P, 2, none⟩ (.slice (some ⟨Q, 0, none⟩) 1 1)) fun R c hR => (Below.heap_setCell (w3.alloc (.cells #[.string ⟨#[84]⟩, .string ⟨#[97]⟩] 28)) ⟨P, 2, none⟩ (.slice (some ⟨Q, 0, none⟩) 1 1) R (fun e => by
            have e : R = P := e
            rw [e, hp9] at hR
            injection hR with hR
            injection hR with _ hR
            exact absurd hR (show 40 ≠ 28 by decide))).trans hR)
          have HB9 := hide ((unhide HB3).setCell (p := ⟨P, 2, none⟩) (unhide HPW) (.slice (some ⟨Q, 0, none⟩) 1 1))
          clear hb9 hp9 hq9 hPQ HO3 HM3 HB3 HO HM HBW HPP hQ hcp
          go_upto_region 13 with fail
          rw [← unhide HQS]
          generalize (w3.alloc _).setCell _ _ = w4 at *
          have HO := HO9
          have HM := HM9
          have HBW := HB9
          have HPP := HP9
          clear HO9 HM9 HB9 HP9 HQS p2 pf e1n k2
          have hPP := unhide HPP
          have p0 : w4.cell? ⟨P, 0, none⟩ = some (.string ⟨#[84]⟩) := by rw [Lib.cell_of_heap hPP]; rfl
          have p1 : w4.cell? ⟨P, 1, none⟩ = some (.string (cU i).i) := by rw [Lib.cell_of_heap hPP]; rfl
          have p2 : w4.cell? ⟨P, 2, none⟩ = some (.slice (some ⟨Q, 0, none⟩) 1 1) := by rw [Lib.cell_of_heap hPP]; rfl
          have p3 : w4.cell? ⟨P, 3, none⟩ = some (.slice none 0 0) := by rw [Lib.cell_of_heap hPP]; rfl
          have b4 := ac1 w4 (.cells #[.string ⟨#[84]⟩, .string (cU i).i, .slice (some ⟨Q, 0, none⟩) 1 1, .slice none 0 0] 40)
          have h4 := alloc_heap w4 (.cells #[.string ⟨#[84]⟩, .string (cU i).i, .slice (some ⟨Q, 0, none⟩) 1 1, .slice none 0 0] 40)
          have HO4 := hide (own_keptA (unhide HO) fun g _ hg => b4.block g hg)
          have HM4 := hide ((unhide HM).below b4)
          have HC4 := hide ((⟨rfl, by rw [unhide HCP]; rfl, .inr ⟨Q, cU 0, unhide HCP, rfl, unhide HQ9⟩, rfl, rfl⟩ : ChOne w4 n true i ⟨⟨#[84]⟩, (cU i).i, (some ⟨Q, 0, none⟩), 1, 1, none, 0, 0⟩).keep fun Q c hq => kept_of_below b4 hq)
          have HB4 := hide ((unhide HBW).trans (b4.mono (unhide HBW).size))
          have hb4 : w2.heap.size ≤ (w4.alloc (.cells #[.string ⟨#[84]⟩, .string (cU i).i, .slice (some ⟨Q, 0, none⟩) 1 1, .slice none 0 0] 40)).heap.size := (unhide HB4).size
          clear hPP b4 HO HM HBW HPP
          go_wp2_with (at_builtin; refine wpList_append_own_at _ rfl _ _ 25 rfl w2.heap.size 40 iE _ 4 80 Try.underlying25 hiE ez0 ez1 ez2 rfl (by decide) _ _ _ rfl (unhide HO4) ⟨w4.heap.size, 0, none⟩ 1 1 [.string ⟨#[84]⟩, .string (cU i).i, .slice (some ⟨Q, 0, none⟩) 1 1, .slice none 0 0] rfl rfl ?p1 ?p2 ?p3 ?p4 ?p5 ?_)
          case p1 =>
            intro c u hu
            rw [Addr.add_lit, Nat.zero_add, Lib.cell_of_heap h4]
            simpa using hu
          case p2 =>
            intro u hu
            simp only [List.mem_cons, List.not_mem_nil, or_false] at hu
            rcases hu with rfl | rfl | rfl | rfl <;> rfl
          case p3 => have := unhide HLE; unfold maxLen; omega
          case p4 => have := unhide HLE; omega
          case p5 => exact hb4
          intro v5 w5 ho5 hg5 _ _
          have HB5 := hide (show Below w2.heap.size w2 w5 from (unhide HB4).grown hg5 (unhide HB4).size (fun g e => ((unhide HO4).lt g e).1))
          have hk5 : ∀ (R : Nat) (c : Array Value), (w4.alloc (.cells #[.string ⟨#[84]⟩, .string (cU i).i, .slice (some ⟨Q, 0, none⟩) 1 1, .slice none 0 0] 40)).heap[R]? = some (.cells c 28 (0, 0)) → w5.heap[R]? = some (.cells c 28 (0, 0)) := fun R c hq => (hg5.block R (Array.getElem?_eq_some_iff.1 hq).1 (fun e => own_notA (show 40 ≠ 28 by decide) (unhide HO4) hq e.symm)).trans hq
          have HM5 := hide (((unhide HM4).keep hk5).snoc (e := ⟨⟨#[84]⟩, (cU i).i, (some ⟨Q, 0, none⟩), 1, 1, none, 0, 0⟩) (by rw [unhide HLE]; exact (unhide HC4).keep hk5))
          have HO5 := hide (show w5.ownsRow w2.heap.size 40 4 v5 (es ++ [(⟨⟨#[84]⟩, (cU i).i, (some ⟨Q, 0, none⟩), 1, 1, none, 0, 0⟩ : E4)]).length ((es ++ [(⟨⟨#[84]⟩, (cU i).i, (some ⟨Q, 0, none⟩), 1, 1, none, 0, 0⟩ : E4)]).map E4.cells).flatten from by
            rw [List.length_append, List.map_append, List.flatten_append]
            have := ho5
            simpa [E4.cells] using this)
          clear ho5 hg5 hk5 h4 HO4 HM4 HC4 HB4 hb4
          go_wp2
          go_roundw
          case rel => exact ⟨es ++ [⟨⟨#[84]⟩, (cU i).i, (some ⟨Q, 0, none⟩), 1, 1, none, 0, 0⟩], i + 1, by go_num, by omega, by rw [List.length_append, unhide HLE]; rfl, unhide HB5, unhide HM5, unhide HO5⟩
          case measure =>
            simp only [intOf]
            omega
        | false =>
          have hcp : cPs n false i = [] := by
            unfold cPs
            rw [if_neg h1n]
            rfl
          have HCP := hide hcp
          clear hcp
          go_upto_region 13 with fail
          clear e1n k2
          have hPP := unhide HPP
          have p0 : w3.cell? ⟨P, 0, none⟩ = some (.string ⟨#[84]⟩) := by rw [Lib.cell_of_heap hPP]; rfl
          have p1 : w3.cell? ⟨P, 1, none⟩ = some (.string (cU i).i) := by rw [Lib.cell_of_heap hPP]; rfl
          have p2 : w3.cell? ⟨P, 2, none⟩ = some (.slice none 0 0) := by rw [Lib.cell_of_heap hPP]; rfl
          have p3 : w3.cell? ⟨P, 3, none⟩ = some (.slice none 0 0) := by rw [Lib.cell_of_heap hPP]; rfl
          have b4 := ac1 w3 (.cells #[.string ⟨#[84]⟩, .string (cU i).i, .slice none 0 0, .slice none 0 0] 40)
          have h4 := alloc_heap w3 (.cells #[.string ⟨#[84]⟩, .string (cU i).i, .slice none 0 0, .slice none 0 0] 40)
          have HO4 := hide (own_keptA (unhide HO) fun g _ hg => b4.block g hg)
          have HM4 := hide ((unhide HM).below b4)
          have HC4 := hide ((⟨rfl, by rw [unhide HCP]; rfl, .inl ⟨unhide HCP, rfl⟩, rfl, rfl⟩ : ChOne w3 n false i ⟨⟨#[84]⟩, (cU i).i, none, 0, 0, none, 0, 0⟩).keep fun Q c hq => kept_of_below b4 hq)
          have HB4 := hide ((unhide HBW).trans (b4.mono (unhide HBW).size))
          have hb4 : w2.heap.size ≤ (w3.alloc (.cells #[.string ⟨#[84]⟩, .string (cU i).i, .slice none 0 0, .slice none 0 0] 40)).heap.size := (unhide HB4).size
          clear hPP b4 HO HM HBW HPP
          go_wp2_with (at_builtin; refine wpList_append_own_at _ rfl _ _ 25 rfl w2.heap.size 40 iE _ 4 80 Try.underlying25 hiE ez0 ez1 ez2 rfl (by decide) _ _ _ rfl (unhide HO4) ⟨w3.heap.size, 0, none⟩ 1 1 [.string ⟨#[84]⟩, .string (cU i).i, .slice none 0 0, .slice none 0 0] rfl rfl ?p1 ?p2 ?p3 ?p4 ?p5 ?_)
          case p1 =>
            intro c u hu
            rw [Addr.add_lit, Nat.zero_add, Lib.cell_of_heap h4]
            simpa using hu
          case p2 =>
            intro u hu
            simp only [List.mem_cons, List.not_mem_nil, or_false] at hu
            rcases hu with rfl | rfl | rfl | rfl <;> rfl
          case p3 => have := unhide HLE; unfold maxLen; omega
          case p4 => have := unhide HLE; omega
          case p5 => exact hb4
          intro v5 w5 ho5 hg5 _ _
          have HB5 := hide (show Below w2.heap.size w2 w5 from (unhide HB4).grown hg5 (unhide HB4).size (fun g e => ((unhide HO4).lt g e).1))
          have hk5 : ∀ (R : Nat) (c : Array Value), (w3.alloc (.cells #[.string ⟨#[84]⟩, .string (cU i).i, .slice none 0 0, .slice none 0 0] 40)).heap[R]? = some (.cells c 28 (0, 0)) → w5.heap[R]? = some (.cells c 28 (0, 0)) := fun R c hq => (hg5.block R (Array.getElem?_eq_some_iff.1 hq).1 (fun e => own_notA (show 40 ≠ 28 by decide) (unhide HO4) hq e.symm)).trans hq
          have HM5 := hide (((unhide HM4).keep hk5).snoc (e := ⟨⟨#[84]⟩, (cU i).i, none, 0, 0, none, 0, 0⟩) (by rw [unhide HLE]; exact (unhide HC4).keep hk5))
          have HO5 := hide (show w5.ownsRow w2.heap.size 40 4 v5 (es ++ [(⟨⟨#[84]⟩, (cU i).i, none, 0, 0, none, 0, 0⟩ : E4)]).length ((es ++ [(⟨⟨#[84]⟩, (cU i).i, none, 0, 0, none, 0, 0⟩ : E4)]).map E4.cells).flatten from by
            rw [List.length_append, List.map_append, List.flatten_append]
            have := ho5
            simpa [E4.cells] using this)
          clear ho5 hg5 hk5 h4 HO4 HM4 HC4 HB4 hb4
          go_wp2
          go_roundw
          case rel => exact ⟨es ++ [⟨⟨#[84]⟩, (cU i).i, none, 0, 0, none, 0, 0⟩], i + 1, by go_num, by omega, by rw [List.length_append, unhide HLE]; rfl, unhide HB5, unhide HM5, unhide HO5⟩
          case measure =>
            simp only [intOf]
            omega
    · obtain rfl : i = n := by omega
      have k1 : ¬ (i : Int) < (i : Int) := by omega
      have HLE := HLE
      obtain ⟨ao, cap, rfl, hro⟩ := own_row4A (unhide HO)
      rw [unhide HLE]
      obtain ⟨b, off, rfl, hb, _⟩ := hro 0 (by rw [List.length_map, unhide HLE]; have := (unhide HN).1; omega)
      have HRO := hide hro
      obtain ⟨f, hf⟩ := isW_ex (upS (chainP i ring))
      have HF := hide hf
      obtain ⟨k, hk⟩ : ∃ k : Nat, at_ % (i : Int) = k := ⟨(at_ % (i : Int)).toNat, by
        have := (unhide HN).1
        have := Int.emod_nonneg at_ (b := (i : Int)) (by omega)
        omega⟩
      have hkl : k < i := by
        have := (unhide HN).1
        have := Int.emod_lt_of_pos at_ (b := (i : Int)) (by omega)
        omega
      have HKL := hide hkl
      have WI := within9_any at_ i (by have := (unhide HN).1; omega) (by omega) wr
      rw [hk] at WI
      have HAT := hide (show ∀ j (hj : j < i), wr.cell? ⟨b, off + j * 4, none⟩ = some (.string (cU j).t) ∧ wr.cell? ⟨b, off + j * 4 + 1, none⟩ = some (.string (cU j).i) from fun j hj => by
        have hj' : j < es.length := by rw [unhide HLE]; exact hj
        obtain ⟨b', off', e', _, hcx⟩ := rowG_at (unhide HRO) (Below.refl wr.heap.size wr) hj'
        cases e'
        have AT : AtE4 wr b (off + j * 4) es[j] := AtE4.of hcx
        have hu := ((unhide HM).one j hj').u
        have h1 : es[j].t = (cU j).t := congrArg U2.t hu
        have h2 : es[j].i = (cU j).i := congrArg U2.i hu
        rw [← h1, ← h2]
        exact ⟨AT.c0, AT.c1⟩)
      obtain ⟨ak0, ak1⟩ := unhide HAT k hkl
      obtain ⟨uk, huk⟩ : ∃ uk, uk = cU k := ⟨_, rfl⟩
      rw [← huk] at ak0 ak1
      have HUK := hide huk
      have m0 : (0 : Int) ≤ (k : Int) := by omega
      have m1' : (k : Int) < (i : Int) := by omega
      have CIN := hide (fun (w' : World) (hb' : Below wr.heap.size wr w') (u y : U2) => ((unhide HM).below hb').inn (unhide HLE) (unhide HN) ((unhide HRO).below hb') (unhide HF) cap u y)
      clear hro hf hk hkl huk HO
      go_wp2_with fail
      refine WI.mono ?_
      clear WI
      rintro e w9 ⟨rfl, hw9⟩
      obtain rfl : wr = w9 := hw9.symm
      clear k0 k1
      cases ring with
      | true =>
        go_wp2_with fail
        go_loopw [11] (fun jv w4 => ∃ j : Nat, jv = .int .i64 j ∧ j ≤ i ∧ Below wr.heap.size wr w4) (fun jv _ => i - (intOf jv).toNat)
        case atStart => exact ⟨0, by go_num, Nat.zero_le _, Below.refl _ _⟩
        case round =>
          rename World => w4
          obtain ⟨j, rfl, hj, hb4⟩ := hrel
          have a0 := (hb4.cell (p := ⟨b, off + k * 4, none⟩) hb).trans ak0
          have a1 := (hb4.cell (p := ⟨b, off + k * 4 + 1, none⟩) hb).trans ak1
          by_cases hjl : j < i
          · have q2 : (j : Int) < (i : Int) := by omega
            have q0 : (0 : Int) ≤ (j : Int) := by omega
            obtain ⟨x0, x1⟩ := unhide HAT j hjl
            obtain ⟨uj, huj⟩ : ∃ uj, uj = cU j := ⟨_, rfl⟩
            rw [← huj] at x0 x1
            have HWAY := hide (show f uk uj = true ↔ true = true ∨ k ≤ j from by
              rw [huj, unhide HUK]
              exact (unhide HF _ _).trans (chain_way (by omega) true hjl (unhide HKL)))
            have c0 := cell_regrown a0
            have c1 := cell_regrown a1
            have d0 := cell_regrown ((hb4.cell (p := ⟨b, off + j * 4, none⟩) hb).trans x0)
            have d1 := cell_regrown ((hb4.cell (p := ⟨b, off + j * 4 + 1, none⟩) hb).trans x1)
            have i9 := fun d os => Calls.regrown_of (w := w4) (d := d) (os := os) (unhide CIN (grow (redrawn w4 d) os) (hb4.trans ((below_regrown w4 d os).mono hb4.size)) uk uj)
            clear huj x0 x1 a0 a1
            rw [show f uk uj = true from (unhide HWAY).2 (.inl rfl)] at i9
            go_wp2_with fail
            refine wp_region_quiet_below (by kernel_rfl) (by kernel_rfl) ?_
            repeat (first | go_big_quiet_step (fail) | quiet_step (fail))
            quiet_step (exact i9 _ _)
            repeat (first | go_big_quiet_step (fail) | quiet_step (fail))
            refine wpQuiet_nil ?_
            intro _ hw'
            obtain ⟨⟨dq, osq⟩, hw''⟩ := hw'
            subst hw''
            have b7 := hb4.trans ((below_regrown w4 dq osq).mono hb4.size)
            generalize grow (redrawn w4 dq) osq = w6 at *
            clear c0 c1 d0 d1 i9
            go_wp2
            go_roundw
            case rel => exact ⟨j + 1, by go_num, by omega, b7⟩
            case measure =>
              simp only [intOf]
              omega
          · obtain rfl : j = i := by omega
            have q2 : ¬ (j : Int) < (j : Int) := by omega
            have HBE := hide ((unhide HB0).trans (((unhide HBW).trans (hb4.mono (unhide HBW).size)).mono (unhide HB0).size))
            have HB4 := hide hb4
            clear hb4
            obtain ⟨La, hnd, hmem, hLa⟩ := abv_exG (chain_N (n := j) (by omega) (by omega) true) uk
            have hll : La.length = j := by
              have := chain_abv (by omega) true (unhide HKL) hnd (by rw [← unhide HUK]; exact hmem)
              simpa using this
            have CA := ((unhide HM).below (unhide HB4)).abv (unhide HLE) (unhide HN) ((unhide HRO).below (unhide HB4)) hLa cap
            have HLL := hide hll
            clear hnd hmem hLa hll
            go_wp2_with fail
            refine CA.mono ?_
            clear CA
            rintro e w6 ⟨b6, ao6, c6, rfl, _⟩
            have hb6 := (unhide HB4).trans (b6.mono (unhide HB4).size)
            have a0 := (b6.cell (p := ⟨b, off + k * 4, none⟩) (Nat.lt_of_lt_of_le hb (unhide HB4).size)).trans a0
            have a1 := (b6.cell (p := ⟨b, off + k * 4 + 1, none⟩) (Nat.lt_of_lt_of_le hb (unhide HB4).size)).trans a1
            have CB := ((unhide HM).below hb6).bel (unhide HLE) (unhide HN) ((unhide HRO).below hb6) (unhide HF) cap uk
            have HLB := hide (show (belF f uk es).length = j - 1 by
              rw [unhide HUK]
              have := chain_bel (by omega) true (unhide HKL) (unhide HF) (es_u (unhide HM) (unhide HLE))
              simpa using this)
            have HBE6 := hide ((unhide HB0).trans (((unhide HBW).trans (hb6.mono (unhide HBW).size)).mono (unhide HB0).size))
            have g1 : ((La.length : Int) == (j : Int)) = true := by
              rw [unhide HLL]
              simp
            clear b6 hb6
            go_wp2_with fail
            refine CB.mono ?_
            clear CB a0 a1
            rintro e w7 ⟨b7, ao7, c7, rfl, _⟩
            have HBF := hide ((unhide HBE6).trans (b7.mono (unhide HBE6).size))
            have g2 : (((belF f uk es).length : Int) == (j : Int) - 1) = true := by
              rw [unhide HLB]
              have := (unhide HN).1
              simp
              omega
            clear b7
            go_wp2
            go_ret
            exact ⟨ret_bool (by simp), unhide HBF⟩
      | false =>
        go_wp2_with fail
        go_loopw [11] (fun jv w4 => ∃ j : Nat, jv = .int .i64 j ∧ j ≤ i ∧ Below wr.heap.size wr w4) (fun jv _ => i - (intOf jv).toNat)
        case atStart => exact ⟨0, by go_num, Nat.zero_le _, Below.refl _ _⟩
        case round =>
          rename World => w4
          obtain ⟨j, rfl, hj, hb4⟩ := hrel
          have a0 := (hb4.cell (p := ⟨b, off + k * 4, none⟩) hb).trans ak0
          have a1 := (hb4.cell (p := ⟨b, off + k * 4 + 1, none⟩) hb).trans ak1
          by_cases hjl : j < i
          · have q2 : (j : Int) < (i : Int) := by omega
            have q0 : (0 : Int) ≤ (j : Int) := by omega
            obtain ⟨x0, x1⟩ := unhide HAT j hjl
            obtain ⟨uj, huj⟩ : ∃ uj, uj = cU j := ⟨_, rfl⟩
            rw [← huj] at x0 x1
            have HWAY := hide (show f uk uj = true ↔ false = true ∨ k ≤ j from by
              rw [huj, unhide HUK]
              exact (unhide HF _ _).trans (chain_way (by omega) false hjl (unhide HKL)))
            have c0 := cell_regrown a0
            have c1 := cell_regrown a1
            have d0 := cell_regrown ((hb4.cell (p := ⟨b, off + j * 4, none⟩) hb).trans x0)
            have d1 := cell_regrown ((hb4.cell (p := ⟨b, off + j * 4 + 1, none⟩) hb).trans x1)
            have i9 := fun d os => Calls.regrown_of (w := w4) (d := d) (os := os) (unhide CIN (grow (redrawn w4 d) os) (hb4.trans ((below_regrown w4 d os).mono hb4.size)) uk uj)
            clear huj x0 x1 a0 a1
            by_cases hkj : k ≤ j
            · have q5 : (k : Int) ≤ (j : Int) := by omega
              rw [show f uk uj = true from (unhide HWAY).2 (.inr hkj)] at i9
              go_wp2_with fail
              refine wp_region_quiet_below (by kernel_rfl) (by kernel_rfl) ?_
              repeat (first | go_big_quiet_step (fail) | quiet_step (fail))
              quiet_step (exact i9 _ _)
              repeat (first | go_big_quiet_step (fail) | quiet_step (fail))
              refine wpQuiet_nil ?_
              intro _ hw'
              obtain ⟨⟨dq, osq⟩, hw''⟩ := hw'
              subst hw''
              have b7 := hb4.trans ((below_regrown w4 dq osq).mono hb4.size)
              generalize grow (redrawn w4 dq) osq = w6 at *
              clear c0 c1 d0 d1 i9
              go_wp2
              go_roundw
              case rel => exact ⟨j + 1, by go_num, by omega, b7⟩
              case measure =>
                simp only [intOf]
                omega
            · have q5 : ¬ (k : Int) ≤ (j : Int) := by omega
              rw [show f uk uj = false from by
                cases e : f uk uj with
                | false => rfl
                | true => exact absurd ((unhide HWAY).1 e) (by rintro (h | h); cases h; exact hkj h)] at i9
              go_wp2_with fail
              refine wp_region_quiet_below (by kernel_rfl) (by kernel_rfl) ?_
              repeat (first | go_big_quiet_step (fail) | quiet_step (fail))
              quiet_step (exact i9 _ _)
              repeat (first | go_big_quiet_step (fail) | quiet_step (fail))
              refine wpQuiet_nil ?_
              intro _ hw'
              obtain ⟨⟨dq, osq⟩, hw''⟩ := hw'
              subst hw''
              have b7 := hb4.trans ((below_regrown w4 dq osq).mono hb4.size)
              generalize grow (redrawn w4 dq) osq = w6 at *
              clear c0 c1 d0 d1 i9
              go_wp2
              go_roundw
              case rel => exact ⟨j + 1, by go_num, by omega, b7⟩
              case measure =>
                simp only [intOf]
                omega
          · obtain rfl : j = i := by omega
            have q2 : ¬ (j : Int) < (j : Int) := by omega
            have HBE := hide ((unhide HB0).trans (((unhide HBW).trans (hb4.mono (unhide HBW).size)).mono (unhide HB0).size))
            have HB4 := hide hb4
            clear hb4
            obtain ⟨La, hnd, hmem, hLa⟩ := abv_exG (chain_N (n := j) (by omega) (by omega) false) uk
            have hll : La.length = j - 1 - k := by
              have := chain_abv (by omega) false (unhide HKL) hnd (by rw [← unhide HUK]; exact hmem)
              simpa using this
            have HGM := hide (fun (w' : World) (hb' : Below w4.heap.size w4 w') => And.intro ((unhide HM).below ((unhide HB4).trans (hb'.mono (unhide HB4).size))) ((unhide HRO).below ((unhide HB4).trans (hb'.mono (unhide HB4).size))))
            have CAB := hide (fun (w' : World) (hb' : Below w4.heap.size w4 w') => (unhide HGM w' hb').1.abv (unhide HLE) (unhide HN) (unhide HGM w' hb').2 hLa cap)
            have CBE := hide (fun (w' : World) (hb' : Below w4.heap.size w4 w') => (unhide HGM w' hb').1.bel (unhide HLE) (unhide HN) (unhide HGM w' hb').2 (unhide HF) cap uk)
            have hlb : (belF f uk es).length = k := by
              rw [unhide HUK]
              have := chain_bel (by omega) false (unhide HKL) (unhide HF) (es_u (unhide HM) (unhide HLE))
              simpa using this
            obtain ⟨n1, hn1⟩ : ∃ n1, n1 = j - 1 := ⟨_, rfl⟩
            have hkl := unhide HKL
            have hn14 := unhide HN
            obtain ⟨zn0, zn1⟩ := unhide HAT n1 (by omega)
            obtain ⟨zz0, zz1⟩ := unhide HAT 0 (by omega)
            obtain ⟨un, hun⟩ : ∃ un, un = cU n1 := ⟨_, rfl⟩
            obtain ⟨uz, huz⟩ : ∃ uz, uz = cU 0 := ⟨_, rfl⟩
            rw [← hun] at zn0 zn1
            rw [← huz] at zz0 zz1
            have hb9 : b < w4.heap.size := Nat.lt_of_lt_of_le hb (unhide HB4).size
            have zk0 := a0
            have zk1 := a1
            have zn0 := ((unhide HB4).cell (p := ⟨b, off + n1 * 4, none⟩) hb).trans zn0
            have zn1 := ((unhide HB4).cell (p := ⟨b, off + n1 * 4 + 1, none⟩) hb).trans zn1
            have zz0 := ((unhide HB4).cell (p := ⟨b, off + 0 * 4, none⟩) hb).trans zz0
            have zz1 := ((unhide HB4).cell (p := ⟨b, off + 0 * 4 + 1, none⟩) hb).trans zz1
            rw [Nat.zero_mul, Nat.add_zero] at zz0 zz1
            have CC1 := hide (fun (w' : World) (hb' : Below w4.heap.size w4 w') (b' : Nat) (ho : w'.heap[b']? = some (.cells #[.string uk.t, .string uk.i] 28 (0, 0))) => (unhide HGM w' hb').1.cir (z := true) (u := un) (x := uk) (unhide HLE) (unhide HN) (unhide HGM w' hb').2 ⟨fun _ => by
              rw [hun, unhide HUK, hn1]
              have := chain_cut (n := j) (k := k) (by omega) (j - 1 - k) (by omega)
              rwa [show k + (j - 1 - k) = j - 1 by omega] at this, fun _ => rfl⟩ ho cap)
            have CC2 := hide (fun (w' : World) (hb' : Below w4.heap.size w4 w') (b' : Nat) (ho : w'.heap[b']? = some (.cells #[.string ⟨#[84]⟩, .string ⟨#[111, 116, 104, 101, 114]⟩] 28 (0, 0))) => (unhide HGM w' hb').1.cir (z := false) (u := uz) (x := oU) (unhide HLE) (unhide HN) (unhide HGM w' hb').2 ⟨fun h => (by cases h), fun h => absurd h (chain_no j false uz (by rw [huz]; exact oU_ne 0))⟩ ho cap)
            obtain ⟨m1, hm1⟩ : ∃ m1, m1 = n1 - k := ⟨_, rfl⟩
            have wr1 : IntKind.i64.wrap ((j : Int) - 1) = (n1 : Int) := by
              rw [IntKind.wrap_i64]
              omega
            have wr2 : IntKind.i64.wrap ((n1 : Int) - (k : Int)) = (m1 : Int) := by
              rw [IntKind.wrap_i64]
              omega
            have eq1 : ((La.length : Int) == (m1 : Int)) = true := by
              rw [beq_iff_eq]
              omega
            have eq2 : (((belF f uk es).length : Int) == (k : Int)) = true := by
              rw [beq_iff_eq]
              omega
            have kn0 : (0 : Int) ≤ (n1 : Int) := by omega
            have kn1 : (n1 : Int) < (j : Int) := by omega
            have kj0 : (0 : Int) < (j : Int) := by omega
            have kz0 : 0 < j := by omega
            generalize belF f uk es = Lb at *
            clear hnd hmem hLa hll hlb hn1 hkl hn14 hun huz hm1 a0 a1
            go_upto_region 22 with fail
            refine wp_specsH 53 (fun _ => true) (SpW [.eq (.slice (some ⟨b, off, none⟩) j cap), .eq (.slice (some ⟨b, off, none⟩) j cap), .eq (.int .i64 (k : Nat)), .eq (.pointer (some ⟨b, off + k * 4, none⟩)), .eq (.pointer (some ⟨b, off + k * 4, none⟩)), .eq (.agg #[.string uk.t, .string uk.i]), .row (La), .eq (.int .i64 (La.length : Nat)), .eq (.int .i64 (j : Nat)), .eq (.int .i64 (n1 : Nat)), .eq (.int .i64 (k : Nat)), .eq (.int .i64 (m1 : Nat)), .eq (.bool true), .eq (.bool true), .eq (.slice (some ⟨b, off, none⟩) j cap), .eq (.slice (some ⟨b, off, none⟩) j cap), .eq (.int .i64 (k : Nat)), .eq (.pointer (some ⟨b, off + k * 4, none⟩)), .eq (.pointer (some ⟨b, off + k * 4, none⟩)), .eq (.agg #[.string uk.t, .string uk.i]), .row (Lb), .eq (.int .i64 (Lb.length : Nat)), .eq (.int .i64 (k : Nat)), .eq (.bool true), .eq (.bool true), .eq (.bool true), .eq (.slice (some ⟨b, off, none⟩) j cap), .eq (.slice (some ⟨b, off, none⟩) j cap), .eq (.int .i64 (j : Nat)), .eq (.int .i64 (n1 : Nat)), .eq (.pointer (some ⟨b, off + n1 * 4, none⟩)), .eq (.pointer (some ⟨b, off + n1 * 4, none⟩)), .eq (.agg #[.string un.t, .string un.i]), .eq (.slice (some ⟨b, off, none⟩) j cap), .eq (.int .i64 (k : Nat)), .eq (.pointer (some ⟨b, off + k * 4, none⟩)), .eq (.pointer (some ⟨b, off + k * 4, none⟩)), .eq (.agg #[.string uk.t, .string uk.i]), .blk (0) (fun b => .slice (some ⟨b, 0, none⟩) 1 1) (.cells #[.string uk.t, .string uk.i] 28 (0, 0)), .eq (.bool true), .eq (.bool true), .eq (.bool true), .eq (.slice (some ⟨b, off, none⟩) j cap), .eq (.slice (some ⟨b, off, none⟩) j cap), .eq (.pointer (some ⟨b, off, none⟩)), .eq (.pointer (some ⟨b, off, none⟩)), .eq (.agg #[.string uz.t, .string uz.i]), .eq (.agg #[.string ⟨#[84]⟩, .string ⟨#[111, 116, 104, 101, 114]⟩]), .blk (0) (fun b => .slice (some ⟨b, 0, none⟩) 1 1) (.cells #[.string ⟨#[84]⟩, .string ⟨#[111, 116, 104, 101, 114]⟩] 28 (0, 0)), .eq (.bool false), .eq (.bool true), .eq (.bool true), .eq (.bool true)]) (fun _ _ w' => Below w4.heap.size w4 w') (by kernel_rfl) (by kernel_rfl) (by kernel_rfl) (Below.refl _ w4).drew ?_ ?_ ?_ ?_ ?_ ?_
            · intro i o ho a' w' hdep
              match i, ho with
              | 0, ho =>
                cases ho
                exact want_none rfl
              | 1, ho =>
                cases ho
                exact want_none rfl
              | 2, ho =>
                cases ho
                exact want_none rfl
              | 3, ho =>
                cases ho
                exact want_none rfl
              | 4, ho =>
                cases ho
                exact want_none rfl
              | 5, ho =>
                cases ho
                exact want_none rfl
              | 6, ho =>
                cases ho
                exact want_none rfl
              | 7, ho =>
                cases ho
                exact want_none rfl
              | 8, ho =>
                cases ho
                exact want_none rfl
              | 9, ho =>
                cases ho
                exact want_none rfl
              | 10, ho =>
                cases ho
                exact want_none rfl
              | 11, ho =>
                cases ho
                exact want_none rfl
              | 12, ho =>
                cases ho
                exact want_none rfl
              | 13, ho =>
                cases ho
                exact want_none rfl
              | 14, ho =>
                cases ho
                exact want_some rfl (by kernel_rfl) (show a'.tmps.getD 113 undef = .bool true from hdep 13 (by decide) (by kernel_rfl))
              | 15, ho =>
                cases ho
                exact want_some rfl (by kernel_rfl) (show a'.tmps.getD 113 undef = .bool true from hdep 13 (by decide) (by kernel_rfl))
              | 16, ho =>
                cases ho
                exact want_some rfl (by kernel_rfl) (show a'.tmps.getD 113 undef = .bool true from hdep 13 (by decide) (by kernel_rfl))
              | 17, ho =>
                cases ho
                exact want_some rfl (by kernel_rfl) (show a'.tmps.getD 113 undef = .bool true from hdep 13 (by decide) (by kernel_rfl))
              | 18, ho =>
                cases ho
                exact want_some rfl (by kernel_rfl) (show a'.tmps.getD 113 undef = .bool true from hdep 13 (by decide) (by kernel_rfl))
              | 19, ho =>
                cases ho
                exact want_some rfl (by kernel_rfl) (show a'.tmps.getD 113 undef = .bool true from hdep 13 (by decide) (by kernel_rfl))
              | 20, ho =>
                cases ho
                exact want_some rfl (by kernel_rfl) (show a'.tmps.getD 113 undef = .bool true from hdep 13 (by decide) (by kernel_rfl))
              | 21, ho =>
                cases ho
                exact want_some rfl (by kernel_rfl) (show a'.tmps.getD 113 undef = .bool true from hdep 13 (by decide) (by kernel_rfl))
              | 22, ho =>
                cases ho
                exact want_some rfl (by kernel_rfl) (show a'.tmps.getD 113 undef = .bool true from hdep 13 (by decide) (by kernel_rfl))
              | 23, ho =>
                cases ho
                exact want_some rfl (by kernel_rfl) (show a'.tmps.getD 113 undef = .bool true from hdep 13 (by decide) (by kernel_rfl))
              | 24, ho =>
                cases ho
                exact want_none rfl
              | 25, ho =>
                cases ho
                exact want_none rfl
              | 26, ho =>
                cases ho
                exact want_some rfl (by kernel_rfl) (show a'.tmps.getD 125 undef = .bool true from hdep 25 (by decide) (by kernel_rfl))
              | 27, ho =>
                cases ho
                exact want_some rfl (by kernel_rfl) (show a'.tmps.getD 125 undef = .bool true from hdep 25 (by decide) (by kernel_rfl))
              | 28, ho =>
                cases ho
                exact want_some rfl (by kernel_rfl) (show a'.tmps.getD 125 undef = .bool true from hdep 25 (by decide) (by kernel_rfl))
              | 29, ho =>
                cases ho
                exact want_some rfl (by kernel_rfl) (show a'.tmps.getD 125 undef = .bool true from hdep 25 (by decide) (by kernel_rfl))
              | 30, ho =>
                cases ho
                exact want_some rfl (by kernel_rfl) (show a'.tmps.getD 125 undef = .bool true from hdep 25 (by decide) (by kernel_rfl))
              | 31, ho =>
                cases ho
                exact want_some rfl (by kernel_rfl) (show a'.tmps.getD 125 undef = .bool true from hdep 25 (by decide) (by kernel_rfl))
              | 32, ho =>
                cases ho
                exact want_some rfl (by kernel_rfl) (show a'.tmps.getD 125 undef = .bool true from hdep 25 (by decide) (by kernel_rfl))
              | 33, ho =>
                cases ho
                exact want_some rfl (by kernel_rfl) (show a'.tmps.getD 125 undef = .bool true from hdep 25 (by decide) (by kernel_rfl))
              | 34, ho =>
                cases ho
                exact want_some rfl (by kernel_rfl) (show a'.tmps.getD 125 undef = .bool true from hdep 25 (by decide) (by kernel_rfl))
              | 35, ho =>
                cases ho
                exact want_some rfl (by kernel_rfl) (show a'.tmps.getD 125 undef = .bool true from hdep 25 (by decide) (by kernel_rfl))
              | 36, ho =>
                cases ho
                exact want_some rfl (by kernel_rfl) (show a'.tmps.getD 125 undef = .bool true from hdep 25 (by decide) (by kernel_rfl))
              | 37, ho =>
                cases ho
                exact want_some rfl (by kernel_rfl) (show a'.tmps.getD 125 undef = .bool true from hdep 25 (by decide) (by kernel_rfl))
              | 38, ho =>
                cases ho
                exact want_some rfl (by kernel_rfl) (show a'.tmps.getD 125 undef = .bool true from hdep 25 (by decide) (by kernel_rfl))
              | 39, ho =>
                cases ho
                exact want_some rfl (by kernel_rfl) (show a'.tmps.getD 125 undef = .bool true from hdep 25 (by decide) (by kernel_rfl))
              | 40, ho =>
                cases ho
                exact want_none rfl
              | 41, ho =>
                cases ho
                exact want_none rfl
              | 42, ho =>
                cases ho
                exact want_some rfl (by kernel_rfl) (show a'.tmps.getD 141 undef = .bool true from hdep 41 (by decide) (by kernel_rfl))
              | 43, ho =>
                cases ho
                exact want_some rfl (by kernel_rfl) (show a'.tmps.getD 141 undef = .bool true from hdep 41 (by decide) (by kernel_rfl))
              | 44, ho =>
                cases ho
                exact want_some rfl (by kernel_rfl) (show a'.tmps.getD 141 undef = .bool true from hdep 41 (by decide) (by kernel_rfl))
              | 45, ho =>
                cases ho
                exact want_some rfl (by kernel_rfl) (show a'.tmps.getD 141 undef = .bool true from hdep 41 (by decide) (by kernel_rfl))
              | 46, ho =>
                cases ho
                exact want_some rfl (by kernel_rfl) (show a'.tmps.getD 141 undef = .bool true from hdep 41 (by decide) (by kernel_rfl))
              | 47, ho =>
                cases ho
                exact want_some rfl (by kernel_rfl) (show a'.tmps.getD 141 undef = .bool true from hdep 41 (by decide) (by kernel_rfl))
              | 48, ho =>
                cases ho
                exact want_some rfl (by kernel_rfl) (show a'.tmps.getD 141 undef = .bool true from hdep 41 (by decide) (by kernel_rfl))
              | 49, ho =>
                cases ho
                exact want_some rfl (by kernel_rfl) (show a'.tmps.getD 141 undef = .bool true from hdep 41 (by decide) (by kernel_rfl))
              | 50, ho =>
                cases ho
                exact want_some rfl (by kernel_rfl) (show a'.tmps.getD 141 undef = .bool true from hdep 41 (by decide) (by kernel_rfl))
              | 51, ho =>
                cases ho
                exact want_none rfl
              | 52, ho =>
                cases ho
                exact want_none rfl
              | i + 53, ho => exact absurd (List.getElem?_eq_some_iff.1 ho).1 (by simp)
            · intro i o hi' ho hwf
              cases hwf
            · intro i hi
              rfl
            · intro i o hi' hwi ho L a' w' hL hw hR hdep hslot hsz K hK
              have yk0 : w'.cell? ⟨b, off + k * 4, none⟩ = some (.string uk.t) := (hR.cell (p := ⟨b, off + k * 4, none⟩) hb9).trans zk0
              have yk1 : w'.cell? ⟨b, off + k * 4 + 1, none⟩ = some (.string uk.i) := (hR.cell (p := ⟨b, off + k * 4 + 1, none⟩) hb9).trans zk1
              have yn0 : w'.cell? ⟨b, off + n1 * 4, none⟩ = some (.string un.t) := (hR.cell (p := ⟨b, off + n1 * 4, none⟩) hb9).trans zn0
              have yn1 : w'.cell? ⟨b, off + n1 * 4 + 1, none⟩ = some (.string un.i) := (hR.cell (p := ⟨b, off + n1 * 4 + 1, none⟩) hb9).trans zn1
              have yz0 : w'.cell? ⟨b, off, none⟩ = some (.string uz.t) := (hR.cell (p := ⟨b, off, none⟩) hb9).trans zz0
              have yz1 : w'.cell? ⟨b, off + 1, none⟩ = some (.string uz.i) := (hR.cell (p := ⟨b, off + 1, none⟩) hb9).trans zz1
              match i, hi' with
              | 0, _ =>
                cases ho
                have e0 : a'.tmps.getD 7 undef = .slice (some ⟨b, off, none⟩) j cap := hslot 7 (by decide)
                have HRk := hide hR
                clear hsz hR hw hdep hslot hL yk0 yk1 yn0 yn1 yz0 yz1
                unfold Oper.wp
                go_simp
                exact hK _ _ rfl (unhide HRk) (fun _ _ h => h)
              | 1, _ =>
                cases ho
                have e0 : a'.tmps.getD 7 undef = .slice (some ⟨b, off, none⟩) j cap := hslot 7 (by decide)
                have HRk := hide hR
                clear hsz hR hw hdep hslot hL yk0 yk1 yn0 yn1 yz0 yz1
                unfold Oper.wp
                go_simp
                exact hK _ _ rfl (unhide HRk) (fun _ _ h => h)
              | 2, _ =>
                cases ho
                have e0 : a'.tmps.getD 10 undef = .int .i64 (k : Nat) := hslot 10 (by decide)
                have HRk := hide hR
                clear hsz hR hw hdep hslot hL yk0 yk1 yn0 yn1 yz0 yz1
                unfold Oper.wp
                go_simp
                exact hK _ _ rfl (unhide HRk) (fun _ _ h => h)
              | 3, _ =>
                cases ho
                have e0 : a'.tmps.getD 101 undef = .slice (some ⟨b, off, none⟩) j cap := hdep 1 (by decide) (by kernel_rfl)
                have e0' : a'.tmps[101]?.getD undef = .slice (some ⟨b, off, none⟩) j cap := by simpa using e0
                have e1 : a'.tmps.getD 102 undef = .int .i64 (k : Nat) := hdep 2 (by decide) (by kernel_rfl)
                have e1' : a'.tmps[102]?.getD undef = .int .i64 (k : Nat) := by simpa using e1
                have HRk := hide hR
                clear hsz hR hw hdep hslot hL yk0 yk1 yn0 yn1 yz0 yz1
                unfold Oper.wp
                go_simp
                exact hK _ _ rfl (unhide HRk) (fun _ _ h => h)
              | 4, _ =>
                cases ho
                have e0 : a'.tmps.getD 103 undef = .pointer (some ⟨b, off + k * 4, none⟩) := hdep 3 (by decide) (by kernel_rfl)
                have e0' : a'.tmps[103]?.getD undef = .pointer (some ⟨b, off + k * 4, none⟩) := by simpa using e0
                have HRk := hide hR
                clear hsz hR hw hdep hslot hL yk0 yk1 yn0 yn1 yz0 yz1
                unfold Oper.wp
                go_simp
                exact hK _ _ rfl (unhide HRk) (fun _ _ h => h)
              | 5, _ =>
                cases ho
                have e0 : a'.tmps.getD 104 undef = .pointer (some ⟨b, off + k * 4, none⟩) := hdep 4 (by decide) (by kernel_rfl)
                have e0' : a'.tmps[104]?.getD undef = .pointer (some ⟨b, off + k * 4, none⟩) := by simpa using e0
                have HRk := hide hR
                clear hsz hR hw hdep hslot hL yn0 yn1 yz0 yz1
                unfold Oper.wp
                go_simp
                exact hK _ _ rfl (unhide HRk) (fun _ _ h => h)
              | 6, _ =>
                cases ho
                have e0 : a'.tmps.getD 100 undef = .slice (some ⟨b, off, none⟩) j cap := hdep 0 (by decide) (by kernel_rfl)
                have e0' : a'.tmps[100]?.getD undef = .slice (some ⟨b, off, none⟩) j cap := by simpa using e0
                have e1 : a'.tmps.getD 105 undef = .agg #[.string uk.t, .string uk.i] := hdep 5 (by decide) (by kernel_rfl)
                have e1' : a'.tmps[105]?.getD undef = .agg #[.string uk.t, .string uk.i] := by simpa using e1
                have C := unhide CAB w' hR
                have HRk := hide hR
                clear hsz hR hw hdep hslot hL yk0 yk1 yn0 yn1 yz0 yz1
                unfold Oper.wp
                go_simp
                refine C.mono ?_
                rintro e w9 ⟨b9, ao9, c9, rfl, hr9⟩
                exact hK _ _ ⟨ao9, c9, rfl, hr9⟩ ((unhide HRk).trans (b9.mono (unhide HRk).size)) (SpW.up b9)
              | 7, _ =>
                cases ho
                obtain ⟨ao0, c0, e0, hr0⟩ : (.row (La) : Sw).sp (a'.tmps.getD 106 undef) w' := hdep 6 (by decide) (by kernel_rfl)
                have e0' : a'.tmps[106]?.getD undef = .slice ao0 (La).length c0 := by simpa using e0
                have Hr0 := hide hr0
                have HRk := hide hR
                clear hsz hR hw hdep hslot hL hr0 yk0 yk1 yn0 yn1 yz0 yz1
                unfold Oper.wp
                go_simp
                exact hK _ _ rfl (unhide HRk) (fun _ _ h => h)
              | 8, _ =>
                cases ho
                have e0 : a'.tmps.getD 0 undef = .int .i64 (j : Nat) := hslot 0 (by decide)
                have HRk := hide hR
                clear hsz hR hw hdep hslot hL yk0 yk1 yn0 yn1 yz0 yz1
                unfold Oper.wp
                go_simp
                exact hK _ _ rfl (unhide HRk) (fun _ _ h => h)
              | 9, _ =>
                cases ho
                have e0 : a'.tmps.getD 108 undef = .int .i64 (j : Nat) := hdep 8 (by decide) (by kernel_rfl)
                have e0' : a'.tmps[108]?.getD undef = .int .i64 (j : Nat) := by simpa using e0
                have HRk := hide hR
                clear hsz hR hw hdep hslot hL yk0 yk1 yn0 yn1 yz0 yz1
                unfold Oper.wp
                go_simp
                exact hK _ _ rfl (unhide HRk) (fun _ _ h => h)
              | 10, _ =>
                cases ho
                have e0 : a'.tmps.getD 10 undef = .int .i64 (k : Nat) := hslot 10 (by decide)
                have HRk := hide hR
                clear hsz hR hw hdep hslot hL yk0 yk1 yn0 yn1 yz0 yz1
                unfold Oper.wp
                go_simp
                exact hK _ _ rfl (unhide HRk) (fun _ _ h => h)
              | 11, _ =>
                cases ho
                have e0 : a'.tmps.getD 109 undef = .int .i64 (n1 : Nat) := hdep 9 (by decide) (by kernel_rfl)
                have e0' : a'.tmps[109]?.getD undef = .int .i64 (n1 : Nat) := by simpa using e0
                have e1 : a'.tmps.getD 110 undef = .int .i64 (k : Nat) := hdep 10 (by decide) (by kernel_rfl)
                have e1' : a'.tmps[110]?.getD undef = .int .i64 (k : Nat) := by simpa using e1
                have HRk := hide hR
                clear hsz hR hw hdep hslot hL yk0 yk1 yn0 yn1 yz0 yz1
                unfold Oper.wp
                go_simp
                exact hK _ _ rfl (unhide HRk) (fun _ _ h => h)
              | 12, _ =>
                cases ho
                have e0 : a'.tmps.getD 107 undef = .int .i64 (La.length : Nat) := hdep 7 (by decide) (by kernel_rfl)
                have e0' : a'.tmps[107]?.getD undef = .int .i64 (La.length : Nat) := by simpa using e0
                have e1 : a'.tmps.getD 111 undef = .int .i64 (m1 : Nat) := hdep 11 (by decide) (by kernel_rfl)
                have e1' : a'.tmps[111]?.getD undef = .int .i64 (m1 : Nat) := by simpa using e1
                have HRk := hide hR
                clear hsz hR hw hdep hslot hL yk0 yk1 yn0 yn1 yz0 yz1
                unfold Oper.wp
                go_simp
                exact hK _ _ rfl (unhide HRk) (fun _ _ h => h)
              | 13, _ =>
                cases ho
                have e0 : a'.tmps.getD 112 undef = .bool true := hdep 12 (by decide) (by kernel_rfl)
                have e0' : a'.tmps[112]?.getD undef = .bool true := by simpa using e0
                have HRk := hide hR
                clear hsz hR hw hdep hslot hL yk0 yk1 yn0 yn1 yz0 yz1
                unfold Oper.wp
                go_simp
                exact hK _ _ rfl (unhide HRk) (fun _ _ h => h)
              | 14, _ =>
                cases ho
                have e0 : a'.tmps.getD 7 undef = .slice (some ⟨b, off, none⟩) j cap := hslot 7 (by decide)
                have HRk := hide hR
                clear hsz hR hw hdep hslot hL yk0 yk1 yn0 yn1 yz0 yz1
                unfold Oper.wp
                go_simp
                exact hK _ _ rfl (unhide HRk) (fun _ _ h => h)
              | 15, _ =>
                cases ho
                have e0 : a'.tmps.getD 7 undef = .slice (some ⟨b, off, none⟩) j cap := hslot 7 (by decide)
                have HRk := hide hR
                clear hsz hR hw hdep hslot hL yk0 yk1 yn0 yn1 yz0 yz1
                unfold Oper.wp
                go_simp
                exact hK _ _ rfl (unhide HRk) (fun _ _ h => h)
              | 16, _ =>
                cases ho
                have e0 : a'.tmps.getD 10 undef = .int .i64 (k : Nat) := hslot 10 (by decide)
                have HRk := hide hR
                clear hsz hR hw hdep hslot hL yk0 yk1 yn0 yn1 yz0 yz1
                unfold Oper.wp
                go_simp
                exact hK _ _ rfl (unhide HRk) (fun _ _ h => h)
              | 17, _ =>
                cases ho
                have e0 : a'.tmps.getD 115 undef = .slice (some ⟨b, off, none⟩) j cap := hdep 15 (by decide) (by kernel_rfl)
                have e0' : a'.tmps[115]?.getD undef = .slice (some ⟨b, off, none⟩) j cap := by simpa using e0
                have e1 : a'.tmps.getD 116 undef = .int .i64 (k : Nat) := hdep 16 (by decide) (by kernel_rfl)
                have e1' : a'.tmps[116]?.getD undef = .int .i64 (k : Nat) := by simpa using e1
                have HRk := hide hR
                clear hsz hR hw hdep hslot hL yk0 yk1 yn0 yn1 yz0 yz1
                unfold Oper.wp
                go_simp
                exact hK _ _ rfl (unhide HRk) (fun _ _ h => h)
              | 18, _ =>
                cases ho
                have e0 : a'.tmps.getD 117 undef = .pointer (some ⟨b, off + k * 4, none⟩) := hdep 17 (by decide) (by kernel_rfl)
                have e0' : a'.tmps[117]?.getD undef = .pointer (some ⟨b, off + k * 4, none⟩) := by simpa using e0
                have HRk := hide hR
                clear hsz hR hw hdep hslot hL yk0 yk1 yn0 yn1 yz0 yz1
                unfold Oper.wp
                go_simp
                exact hK _ _ rfl (unhide HRk) (fun _ _ h => h)
              | 19, _ =>
                cases ho
                have e0 : a'.tmps.getD 118 undef = .pointer (some ⟨b, off + k * 4, none⟩) := hdep 18 (by decide) (by kernel_rfl)
                have e0' : a'.tmps[118]?.getD undef = .pointer (some ⟨b, off + k * 4, none⟩) := by simpa using e0
                have HRk := hide hR
                clear hsz hR hw hdep hslot hL yn0 yn1 yz0 yz1
                unfold Oper.wp
                go_simp
                exact hK _ _ rfl (unhide HRk) (fun _ _ h => h)
              | 20, _ =>
                cases ho
                have e0 : a'.tmps.getD 114 undef = .slice (some ⟨b, off, none⟩) j cap := hdep 14 (by decide) (by kernel_rfl)
                have e0' : a'.tmps[114]?.getD undef = .slice (some ⟨b, off, none⟩) j cap := by simpa using e0
                have e1 : a'.tmps.getD 119 undef = .agg #[.string uk.t, .string uk.i] := hdep 19 (by decide) (by kernel_rfl)
                have e1' : a'.tmps[119]?.getD undef = .agg #[.string uk.t, .string uk.i] := by simpa using e1
                have C := unhide CBE w' hR
                have HRk := hide hR
                clear hsz hR hw hdep hslot hL yk0 yk1 yn0 yn1 yz0 yz1
                unfold Oper.wp
                go_simp
                refine C.mono ?_
                rintro e w9 ⟨b9, ao9, c9, rfl, hr9⟩
                exact hK _ _ ⟨ao9, c9, rfl, hr9⟩ ((unhide HRk).trans (b9.mono (unhide HRk).size)) (SpW.up b9)
              | 21, _ =>
                cases ho
                obtain ⟨ao0, c0, e0, hr0⟩ : (.row (Lb) : Sw).sp (a'.tmps.getD 120 undef) w' := hdep 20 (by decide) (by kernel_rfl)
                have e0' : a'.tmps[120]?.getD undef = .slice ao0 (Lb).length c0 := by simpa using e0
                have Hr0 := hide hr0
                have HRk := hide hR
                clear hsz hR hw hdep hslot hL hr0 yk0 yk1 yn0 yn1 yz0 yz1
                unfold Oper.wp
                go_simp
                exact hK _ _ rfl (unhide HRk) (fun _ _ h => h)
              | 22, _ =>
                cases ho
                have e0 : a'.tmps.getD 10 undef = .int .i64 (k : Nat) := hslot 10 (by decide)
                have HRk := hide hR
                clear hsz hR hw hdep hslot hL yk0 yk1 yn0 yn1 yz0 yz1
                unfold Oper.wp
                go_simp
                exact hK _ _ rfl (unhide HRk) (fun _ _ h => h)
              | 23, _ =>
                cases ho
                have e0 : a'.tmps.getD 121 undef = .int .i64 (Lb.length : Nat) := hdep 21 (by decide) (by kernel_rfl)
                have e0' : a'.tmps[121]?.getD undef = .int .i64 (Lb.length : Nat) := by simpa using e0
                have e1 : a'.tmps.getD 122 undef = .int .i64 (k : Nat) := hdep 22 (by decide) (by kernel_rfl)
                have e1' : a'.tmps[122]?.getD undef = .int .i64 (k : Nat) := by simpa using e1
                have HRk := hide hR
                clear hsz hR hw hdep hslot hL yk0 yk1 yn0 yn1 yz0 yz1
                unfold Oper.wp
                go_simp
                exact hK _ _ rfl (unhide HRk) (fun _ _ h => h)
              | 24, _ =>
                cases ho
                have e0 : a'.tmps.getD 113 undef = .bool true := hdep 13 (by decide) (by kernel_rfl)
                have e0' : a'.tmps[113]?.getD undef = .bool true := by simpa using e0
                have e1 : a'.tmps.getD 123 undef = .bool true := hdep 23 (by decide) (by kernel_rfl)
                have e1' : a'.tmps[123]?.getD undef = .bool true := by simpa using e1
                have HRk := hide hR
                clear hsz hR hw hdep hslot hL yk0 yk1 yn0 yn1 yz0 yz1
                unfold Oper.wp
                go_simp
                exact hK _ _ rfl (unhide HRk) (fun _ _ h => h)
              | 25, _ =>
                cases ho
                have e0 : a'.tmps.getD 124 undef = .bool true := hdep 24 (by decide) (by kernel_rfl)
                have e0' : a'.tmps[124]?.getD undef = .bool true := by simpa using e0
                have HRk := hide hR
                clear hsz hR hw hdep hslot hL yk0 yk1 yn0 yn1 yz0 yz1
                unfold Oper.wp
                go_simp
                exact hK _ _ rfl (unhide HRk) (fun _ _ h => h)
              | 26, _ =>
                cases ho
                have e0 : a'.tmps.getD 7 undef = .slice (some ⟨b, off, none⟩) j cap := hslot 7 (by decide)
                have HRk := hide hR
                clear hsz hR hw hdep hslot hL yk0 yk1 yn0 yn1 yz0 yz1
                unfold Oper.wp
                go_simp
                exact hK _ _ rfl (unhide HRk) (fun _ _ h => h)
              | 27, _ =>
                cases ho
                have e0 : a'.tmps.getD 7 undef = .slice (some ⟨b, off, none⟩) j cap := hslot 7 (by decide)
                have HRk := hide hR
                clear hsz hR hw hdep hslot hL yk0 yk1 yn0 yn1 yz0 yz1
                unfold Oper.wp
                go_simp
                exact hK _ _ rfl (unhide HRk) (fun _ _ h => h)
              | 28, _ =>
                cases ho
                have e0 : a'.tmps.getD 0 undef = .int .i64 (j : Nat) := hslot 0 (by decide)
                have HRk := hide hR
                clear hsz hR hw hdep hslot hL yk0 yk1 yn0 yn1 yz0 yz1
                unfold Oper.wp
                go_simp
                exact hK _ _ rfl (unhide HRk) (fun _ _ h => h)
              | 29, _ =>
                cases ho
                have e0 : a'.tmps.getD 128 undef = .int .i64 (j : Nat) := hdep 28 (by decide) (by kernel_rfl)
                have e0' : a'.tmps[128]?.getD undef = .int .i64 (j : Nat) := by simpa using e0
                have HRk := hide hR
                clear hsz hR hw hdep hslot hL yk0 yk1 yn0 yn1 yz0 yz1
                unfold Oper.wp
                go_simp
                exact hK _ _ rfl (unhide HRk) (fun _ _ h => h)
              | 30, _ =>
                cases ho
                have e0 : a'.tmps.getD 127 undef = .slice (some ⟨b, off, none⟩) j cap := hdep 27 (by decide) (by kernel_rfl)
                have e0' : a'.tmps[127]?.getD undef = .slice (some ⟨b, off, none⟩) j cap := by simpa using e0
                have e1 : a'.tmps.getD 129 undef = .int .i64 (n1 : Nat) := hdep 29 (by decide) (by kernel_rfl)
                have e1' : a'.tmps[129]?.getD undef = .int .i64 (n1 : Nat) := by simpa using e1
                have HRk := hide hR
                clear hsz hR hw hdep hslot hL yk0 yk1 yn0 yn1 yz0 yz1
                unfold Oper.wp
                go_simp
                exact hK _ _ rfl (unhide HRk) (fun _ _ h => h)
              | 31, _ =>
                cases ho
                have e0 : a'.tmps.getD 130 undef = .pointer (some ⟨b, off + n1 * 4, none⟩) := hdep 30 (by decide) (by kernel_rfl)
                have e0' : a'.tmps[130]?.getD undef = .pointer (some ⟨b, off + n1 * 4, none⟩) := by simpa using e0
                have HRk := hide hR
                clear hsz hR hw hdep hslot hL yk0 yk1 yn0 yn1 yz0 yz1
                unfold Oper.wp
                go_simp
                exact hK _ _ rfl (unhide HRk) (fun _ _ h => h)
              | 32, _ =>
                cases ho
                have e0 : a'.tmps.getD 131 undef = .pointer (some ⟨b, off + n1 * 4, none⟩) := hdep 31 (by decide) (by kernel_rfl)
                have e0' : a'.tmps[131]?.getD undef = .pointer (some ⟨b, off + n1 * 4, none⟩) := by simpa using e0
                have HRk := hide hR
                clear hsz hR hw hdep hslot hL yk0 yk1 yz0 yz1
                unfold Oper.wp
                go_simp
                exact hK _ _ rfl (unhide HRk) (fun _ _ h => h)
              | 33, _ =>
                cases ho
                have e0 : a'.tmps.getD 7 undef = .slice (some ⟨b, off, none⟩) j cap := hslot 7 (by decide)
                have HRk := hide hR
                clear hsz hR hw hdep hslot hL yk0 yk1 yn0 yn1 yz0 yz1
                unfold Oper.wp
                go_simp
                exact hK _ _ rfl (unhide HRk) (fun _ _ h => h)
              | 34, _ =>
                cases ho
                have e0 : a'.tmps.getD 10 undef = .int .i64 (k : Nat) := hslot 10 (by decide)
                have HRk := hide hR
                clear hsz hR hw hdep hslot hL yk0 yk1 yn0 yn1 yz0 yz1
                unfold Oper.wp
                go_simp
                exact hK _ _ rfl (unhide HRk) (fun _ _ h => h)
              | 35, _ =>
                cases ho
                have e0 : a'.tmps.getD 133 undef = .slice (some ⟨b, off, none⟩) j cap := hdep 33 (by decide) (by kernel_rfl)
                have e0' : a'.tmps[133]?.getD undef = .slice (some ⟨b, off, none⟩) j cap := by simpa using e0
                have e1 : a'.tmps.getD 134 undef = .int .i64 (k : Nat) := hdep 34 (by decide) (by kernel_rfl)
                have e1' : a'.tmps[134]?.getD undef = .int .i64 (k : Nat) := by simpa using e1
                have HRk := hide hR
                clear hsz hR hw hdep hslot hL yk0 yk1 yn0 yn1 yz0 yz1
                unfold Oper.wp
                go_simp
                exact hK _ _ rfl (unhide HRk) (fun _ _ h => h)
              | 36, _ =>
                cases ho
                have e0 : a'.tmps.getD 135 undef = .pointer (some ⟨b, off + k * 4, none⟩) := hdep 35 (by decide) (by kernel_rfl)
                have e0' : a'.tmps[135]?.getD undef = .pointer (some ⟨b, off + k * 4, none⟩) := by simpa using e0
                have HRk := hide hR
                clear hsz hR hw hdep hslot hL yk0 yk1 yn0 yn1 yz0 yz1
                unfold Oper.wp
                go_simp
                exact hK _ _ rfl (unhide HRk) (fun _ _ h => h)
              | 37, _ =>
                cases ho
                have e0 : a'.tmps.getD 136 undef = .pointer (some ⟨b, off + k * 4, none⟩) := hdep 36 (by decide) (by kernel_rfl)
                have e0' : a'.tmps[136]?.getD undef = .pointer (some ⟨b, off + k * 4, none⟩) := by simpa using e0
                have HRk := hide hR
                clear hsz hR hw hdep hslot hL yn0 yn1 yz0 yz1
                unfold Oper.wp
                go_simp
                exact hK _ _ rfl (unhide HRk) (fun _ _ h => h)
              | 38, _ =>
                cases ho
                have e0 : a'.tmps.getD 137 undef = .agg #[.string uk.t, .string uk.i] := hdep 37 (by decide) (by kernel_rfl)
                have e0' : a'.tmps[137]?.getD undef = .agg #[.string uk.t, .string uk.i] := by simpa using e0
                have HRk := hide hR
                clear hsz hR hw hdep hslot hL yk0 yk1 yn0 yn1 yz0 yz1
                unfold Oper.wp
                go_simp
                exact hK _ _ ⟨w'.heap.size, Nat.zero_le _, rfl, alloc_heap _ _⟩ ((unhide HRk).trans ((ac1 _ _).mono (unhide HRk).size)) (SpW.up (ac1 _ _))
              | 39, _ =>
                cases ho
                have e0 : a'.tmps.getD 126 undef = .slice (some ⟨b, off, none⟩) j cap := hdep 26 (by decide) (by kernel_rfl)
                have e0' : a'.tmps[126]?.getD undef = .slice (some ⟨b, off, none⟩) j cap := by simpa using e0
                have e1 : a'.tmps.getD 132 undef = .agg #[.string un.t, .string un.i] := hdep 32 (by decide) (by kernel_rfl)
                have e1' : a'.tmps[132]?.getD undef = .agg #[.string un.t, .string un.i] := by simpa using e1
                obtain ⟨b2, hB2, e2, ho2⟩ : (.blk (0) (fun b => .slice (some ⟨b, 0, none⟩) 1 1) (.cells #[.string uk.t, .string uk.i] 28 (0, 0)) : Sw).sp (a'.tmps.getD 138 undef) w' := hdep 38 (by decide) (by kernel_rfl)
                have e2' : a'.tmps[138]?.getD undef = .slice (some ⟨b2, 0, none⟩) 1 1 := by simpa using e2
                have Ho2 := hide ho2
                have C := unhide CC1 w' hR b2 ho2
                have HRk := hide hR
                clear hsz hR hw hdep hslot hL ho2 yk0 yk1 yn0 yn1 yz0 yz1
                unfold Oper.wp
                go_simp
                refine C.mono ?_
                rintro e w9 ⟨rfl, b9⟩
                exact hK _ _ rfl ((unhide HRk).trans (b9.mono (unhide HRk).size)) (SpW.up b9)
              | 40, _ =>
                cases ho
                have e0 : a'.tmps.getD 125 undef = .bool true := hdep 25 (by decide) (by kernel_rfl)
                have e0' : a'.tmps[125]?.getD undef = .bool true := by simpa using e0
                have e1 : a'.tmps.getD 139 undef = .bool true := hdep 39 (by decide) (by kernel_rfl)
                have e1' : a'.tmps[139]?.getD undef = .bool true := by simpa using e1
                have HRk := hide hR
                clear hsz hR hw hdep hslot hL yk0 yk1 yn0 yn1 yz0 yz1
                unfold Oper.wp
                go_simp
                exact hK _ _ rfl (unhide HRk) (fun _ _ h => h)
              | 41, _ =>
                cases ho
                have e0 : a'.tmps.getD 140 undef = .bool true := hdep 40 (by decide) (by kernel_rfl)
                have e0' : a'.tmps[140]?.getD undef = .bool true := by simpa using e0
                have HRk := hide hR
                clear hsz hR hw hdep hslot hL yk0 yk1 yn0 yn1 yz0 yz1
                unfold Oper.wp
                go_simp
                exact hK _ _ rfl (unhide HRk) (fun _ _ h => h)
              | 42, _ =>
                cases ho
                have e0 : a'.tmps.getD 7 undef = .slice (some ⟨b, off, none⟩) j cap := hslot 7 (by decide)
                have HRk := hide hR
                clear hsz hR hw hdep hslot hL yk0 yk1 yn0 yn1 yz0 yz1
                unfold Oper.wp
                go_simp
                exact hK _ _ rfl (unhide HRk) (fun _ _ h => h)
              | 43, _ =>
                cases ho
                have e0 : a'.tmps.getD 7 undef = .slice (some ⟨b, off, none⟩) j cap := hslot 7 (by decide)
                have HRk := hide hR
                clear hsz hR hw hdep hslot hL yk0 yk1 yn0 yn1 yz0 yz1
                unfold Oper.wp
                go_simp
                exact hK _ _ rfl (unhide HRk) (fun _ _ h => h)
              | 44, _ =>
                cases ho
                have e0 : a'.tmps.getD 143 undef = .slice (some ⟨b, off, none⟩) j cap := hdep 43 (by decide) (by kernel_rfl)
                have e0' : a'.tmps[143]?.getD undef = .slice (some ⟨b, off, none⟩) j cap := by simpa using e0
                have HRk := hide hR
                clear hsz hR hw hdep hslot hL yk0 yk1 yn0 yn1 yz0 yz1
                unfold Oper.wp
                go_simp
                exact hK _ _ rfl (unhide HRk) (fun _ _ h => h)
              | 45, _ =>
                cases ho
                have e0 : a'.tmps.getD 144 undef = .pointer (some ⟨b, off, none⟩) := hdep 44 (by decide) (by kernel_rfl)
                have e0' : a'.tmps[144]?.getD undef = .pointer (some ⟨b, off, none⟩) := by simpa using e0
                have HRk := hide hR
                clear hsz hR hw hdep hslot hL yk0 yk1 yn0 yn1 yz0 yz1
                unfold Oper.wp
                go_simp
                exact hK _ _ rfl (unhide HRk) (fun _ _ h => h)
              | 46, _ =>
                cases ho
                have e0 : a'.tmps.getD 145 undef = .pointer (some ⟨b, off, none⟩) := hdep 45 (by decide) (by kernel_rfl)
                have e0' : a'.tmps[145]?.getD undef = .pointer (some ⟨b, off, none⟩) := by simpa using e0
                have HRk := hide hR
                clear hsz hR hw hdep hslot hL yk0 yk1 yn0 yn1
                unfold Oper.wp
                go_simp
                exact hK _ _ rfl (unhide HRk) (fun _ _ h => h)
              | 47, _ =>
                cases ho
                have HRk := hide hR
                clear hsz hR hw hdep hslot hL yk0 yk1 yn0 yn1 yz0 yz1
                unfold Oper.wp
                go_simp
                exact hK _ _ rfl (unhide HRk) (fun _ _ h => h)
              | 48, _ =>
                cases ho
                have e0 : a'.tmps.getD 147 undef = .agg #[.string ⟨#[84]⟩, .string ⟨#[111, 116, 104, 101, 114]⟩] := hdep 47 (by decide) (by kernel_rfl)
                have e0' : a'.tmps[147]?.getD undef = .agg #[.string ⟨#[84]⟩, .string ⟨#[111, 116, 104, 101, 114]⟩] := by simpa using e0
                have HRk := hide hR
                clear hsz hR hw hdep hslot hL yk0 yk1 yn0 yn1 yz0 yz1
                unfold Oper.wp
                go_simp
                exact hK _ _ ⟨w'.heap.size, Nat.zero_le _, rfl, alloc_heap _ _⟩ ((unhide HRk).trans ((ac1 _ _).mono (unhide HRk).size)) (SpW.up (ac1 _ _))
              | 49, _ =>
                cases ho
                have e0 : a'.tmps.getD 142 undef = .slice (some ⟨b, off, none⟩) j cap := hdep 42 (by decide) (by kernel_rfl)
                have e0' : a'.tmps[142]?.getD undef = .slice (some ⟨b, off, none⟩) j cap := by simpa using e0
                have e1 : a'.tmps.getD 146 undef = .agg #[.string uz.t, .string uz.i] := hdep 46 (by decide) (by kernel_rfl)
                have e1' : a'.tmps[146]?.getD undef = .agg #[.string uz.t, .string uz.i] := by simpa using e1
                obtain ⟨b2, hB2, e2, ho2⟩ : (.blk (0) (fun b => .slice (some ⟨b, 0, none⟩) 1 1) (.cells #[.string ⟨#[84]⟩, .string ⟨#[111, 116, 104, 101, 114]⟩] 28 (0, 0)) : Sw).sp (a'.tmps.getD 148 undef) w' := hdep 48 (by decide) (by kernel_rfl)
                have e2' : a'.tmps[148]?.getD undef = .slice (some ⟨b2, 0, none⟩) 1 1 := by simpa using e2
                have Ho2 := hide ho2
                have C := unhide CC2 w' hR b2 ho2
                have HRk := hide hR
                clear hsz hR hw hdep hslot hL ho2 yk0 yk1 yn0 yn1 yz0 yz1
                unfold Oper.wp
                go_simp
                refine C.mono ?_
                rintro e w9 ⟨rfl, b9⟩
                exact hK _ _ rfl ((unhide HRk).trans (b9.mono (unhide HRk).size)) (SpW.up b9)
              | 50, _ =>
                cases ho
                have e0 : a'.tmps.getD 149 undef = .bool false := hdep 49 (by decide) (by kernel_rfl)
                have e0' : a'.tmps[149]?.getD undef = .bool false := by simpa using e0
                have HRk := hide hR
                clear hsz hR hw hdep hslot hL yk0 yk1 yn0 yn1 yz0 yz1
                unfold Oper.wp
                go_simp
                exact hK _ _ rfl (unhide HRk) (fun _ _ h => h)
              | 51, _ =>
                cases ho
                have e0 : a'.tmps.getD 141 undef = .bool true := hdep 41 (by decide) (by kernel_rfl)
                have e0' : a'.tmps[141]?.getD undef = .bool true := by simpa using e0
                have e1 : a'.tmps.getD 150 undef = .bool true := hdep 50 (by decide) (by kernel_rfl)
                have e1' : a'.tmps[150]?.getD undef = .bool true := by simpa using e1
                have HRk := hide hR
                clear hsz hR hw hdep hslot hL yk0 yk1 yn0 yn1 yz0 yz1
                unfold Oper.wp
                go_simp
                exact hK _ _ rfl (unhide HRk) (fun _ _ h => h)
              | 52, _ =>
                cases ho
                have e0 : a'.tmps.getD 151 undef = .bool true := hdep 51 (by decide) (by kernel_rfl)
                have e0' : a'.tmps[151]?.getD undef = .bool true := by simpa using e0
                have HRk := hide hR
                clear hsz hR hw hdep hslot hL yk0 yk1 yn0 yn1 yz0 yz1
                unfold Oper.wp
                go_simp
                exact hK _ _ rfl (unhide HRk) (fun _ _ h => h)
              | i + 53, h => exact absurd h (by omega)
            · intro i o hi' ho
              have h := (List.getElem?_eq_some_iff.1 ho).1
              simp only [List.length_cons, List.length_nil] at h
              omega
            · intro vv L wE hall hR hsp
              have bE := hR
              have sl : vv 52 = .bool true := hsp 52 (by decide)
              clear hR hall hsp
              simp only [putAll, dstOf, List.getElem?_cons_zero, List.getElem?_cons_succ, Option.bind_some, sl]
              clear sl
              simp only [Act.put, List.setIfInBounds_toArray, List.set_cons_succ, List.set_cons_zero]
              generalize vv 0 = v0
              generalize vv 1 = v1
              generalize vv 2 = v2
              generalize vv 3 = v3
              generalize vv 4 = v4
              generalize vv 5 = v5
              generalize vv 6 = v6
              generalize vv 7 = v7
              generalize vv 8 = v8
              generalize vv 9 = v9
              generalize vv 10 = v10
              generalize vv 11 = v11
              generalize vv 12 = v12
              generalize vv 13 = v13
              generalize vv 14 = v14
              generalize vv 15 = v15
              generalize vv 16 = v16
              generalize vv 17 = v17
              generalize vv 18 = v18
              generalize vv 19 = v19
              generalize vv 20 = v20
              generalize vv 21 = v21
              generalize vv 22 = v22
              generalize vv 23 = v23
              generalize vv 24 = v24
              generalize vv 25 = v25
              generalize vv 26 = v26
              generalize vv 27 = v27
              generalize vv 28 = v28
              generalize vv 29 = v29
              generalize vv 30 = v30
              generalize vv 31 = v31
              generalize vv 32 = v32
              generalize vv 33 = v33
              generalize vv 34 = v34
              generalize vv 35 = v35
              generalize vv 36 = v36
              generalize vv 37 = v37
              generalize vv 38 = v38
              generalize vv 39 = v39
              generalize vv 40 = v40
              generalize vv 41 = v41
              generalize vv 42 = v42
              generalize vv 43 = v43
              generalize vv 44 = v44
              generalize vv 45 = v45
              generalize vv 46 = v46
              generalize vv 47 = v47
              generalize vv 48 = v48
              generalize vv 49 = v49
              generalize vv 50 = v50
              generalize vv 51 = v51
              have HBF := hide ((unhide HBE).trans (bE.mono (unhide HBE).size))
              clear bE
              go_wp2
              go_ret
              exact ⟨rfl, unhide HBF⟩
end Go.Proofs.Ythmmplmppchfmaa
