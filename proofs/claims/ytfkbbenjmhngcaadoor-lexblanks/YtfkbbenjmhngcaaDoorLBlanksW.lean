/-
  chancellaw4.LexBlanks: the walk.
-/
import Derived.Test.YtfkbbenjmhngcaaDoorLezP
namespace Go.Proofs.YtfkbbenjmhngcaaDoor
open Go.RowKit

def gapsV : Array Value := #[.string ⟨#[]⟩, .string ⟨#[32, 32]⟩, .string ⟨#[47, 47, 32, 97, 32, 114, 101, 109, 97, 114, 107, 10]⟩, .string ⟨#[9, 13, 10]⟩, .string ⟨#[47, 47, 10, 47, 47, 10]⟩]
theorem gaps_at (q : Int) (h0 : 0 ≤ q) (h5 : q < 5) (W : World) : ∃ M : ByteArray, M.data.toList ∈ gapsL ∧ M.size ≤ 12 ∧ (W.alloc (.cells gapsV 9)).cell? ⟨W.heap.size, q.toNat, none⟩ = some (.string M) := by
  have hj : q = 0 ∨ q = 1 ∨ q = 2 ∨ q = 3 ∨ q = 4 := by omega
  rcases hj with rfl | rfl | rfl | rfl | rfl
  · exact ⟨⟨#[]⟩, by decide, by decide, by simp [gapsV]⟩
  · exact ⟨⟨#[32, 32]⟩, by decide, by decide, by simp [gapsV]⟩
  · exact ⟨⟨#[47, 47, 32, 97, 32, 114, 101, 109, 97, 114, 107, 10]⟩, by decide, by decide, by simp [gapsV]⟩
  · exact ⟨⟨#[9, 13, 10]⟩, by decide, by decide, by simp [gapsV]⟩
  · exact ⟨⟨#[47, 47, 10, 47, 47, 10]⟩, by decide, by decide, by simp [gapsV]⟩

theorem cat3 (a p c : ByteArray) : (a ++ p ++ c).data.toList = a.data.toList ++ p.data.toList ++ c.data.toList := by simp
theorem cat4 (a p c g : ByteArray) : (a ++ p ++ c ++ g).data.toList = a.data.toList ++ p.data.toList ++ c.data.toList ++ g.data.toList := by simp

set_option maxHeartbeats 4000000 in
set_option maxRecDepth 1000000 in
theorem blanks_walk (ns : List Int) (ao : Option Addr) (ca : Nat) (rs : List Int) (bo : Option Addr) (cb : Nat) (gs : List Int) (co : Option Addr) (cc : Nat) (w : World) (hS : Signs w)
    (hrl : rs.length ≤ 9223372036854775807) (hn : IntsAt w ao ns) (hr : IntsAt w bo rs) (hg : IntsAt w co gs) :
    Calls Tryd.prog 4 #[.slice ao ns.length ca, .slice bo rs.length cb, .slice co gs.length cc] w fun e w' => e = .returned (.bool true) ∧ Below w.heap.size w w' := by
  have K := known4_any w hS
  go_enter Tryd.func4, Tryd.ntmps4
  go_wp2_with fail
  refine K.mono ?_
  rintro e w1 ⟨rfl, b1⟩
  go_wp2
  go_loopw [7, 8, 9] (fun av bv iv wr => ∃ (i : Nat) (a b : ByteArray), i ≤ ns.length ∧ i ≤ 25 ∧ iv = .int .i64 i ∧ av = .string a ∧ bv = .string b ∧ a.size ≤ 320 * i ∧ b.size ≤ 320 * i ∧ BInv a.data.toList b.data.toList i ∧ Below w.heap.size w wr) (fun _ _ iv _ => 25 - (intOf iv).toNat)
  case atStart => exact ⟨0, _, _, Nat.zero_le _, by decide, rfl, rfl, rfl, by decide, by decide, BInv.start, b1⟩
  case round =>
    obtain ⟨i, a, b, hi, hi25, rfl, rfl, rfl, has, hbs, hinv, hbw⟩ := hrel
    have Hinv := hide hinv
    clear hinv
    have has2 : a.size ≤ 8000 := by omega
    have hbs2 : b.size ≤ 8000 := by omega
    by_cases hc : i < ns.length ∧ i < 25
    · obtain ⟨hc1, hc2⟩ := hc
      have i1 : (i : Int) < (ns.length : Int) := by omega
      have i2 : (i : Int) < 25 := by omega
      obtain ⟨bb, off, rfl, hb, hcell⟩ := hn i hc1
      have hcell2 := (hbw.cell (p := ⟨bb, off + i, none⟩) hb).trans hcell
      have hr2 := hr.below hbw
      generalize ns[i] = x at *
      clear hcell
      have P := piece4_any x rs bo cb wr hrl hr2
      go_wp2_with fail
      refine P.mono ?_
      rintro e w3 ⟨p, rfl, hps, hpp, b3⟩
      have b03 := hbw.trans (b3.mono hbw.size)
      have U := rtokens_any p w3 (by omega)
      obtain ⟨E, hE⟩ : ∃ E, E = (toks p.data.toList).2 := ⟨_, rfl⟩
      rw [← hE] at U
      have HE := hide hE
      have Hpp := hide hpp
      clear hE hpp hcell2 P
      go_wp2_with fail
      refine U.mono ?_
      rintro e w4 ⟨v4, rfl, _, b4⟩
      have b04 := b03.trans (b4.mono b03.size)
      by_cases hE0 : E = 0
      · subst hE0
        obtain ⟨tl, hgood⟩ := piece_good (unhide Hpp) (unhide HE).symm
        have Hgood := hide hgood
        clear hgood
        by_cases hgl : i < gs.length
        · have i3 : (i : Int) < (gs.length : Int) := by omega
          obtain ⟨b', off', rfl, hb', hcell'⟩ := hg i hgl
          have b5 : Below w.heap.size w (w4.alloc (.cells gapsV 9)) := b04.alloc b04.size _
          have hcell5 := (b5.cell (p := ⟨b', off' + i, none⟩) hb').trans hcell'
          generalize gs[i] = y at *
          clear hcell'
          have W5 := within4_any y 5 (by decide) (by decide)
          obtain ⟨q, hq⟩ : ∃ q, q = y % 5 := ⟨_, rfl⟩
          have q0 : 0 ≤ q := by omega
          have q1 : q < 5 := by omega
          rw [← hq] at W5
          clear hq
          obtain ⟨M, hMg, hMs, hMc⟩ := gaps_at q q0 q1 w4
          have HM := hide hMg
          clear hMg
          unfold gapsV at hMc b5 hcell5
          go_wp2_with fail
          generalize w4.alloc _ = w5 at *
          refine (W5 _).mono ?_
          rintro e w6 ⟨rfl, rfl⟩
          go_wp2
          go_roundw
          case rel =>
            refine ⟨i + 1, _, _, by omega, by omega, by go_num, rfl, rfl, ?_, ?_, ?_, b5⟩
            · rw [ByteArray.size_append, ByteArray.size_append]
              show a.size + p.size + 1 ≤ _
              omega
            · rw [ByteArray.size_append, ByteArray.size_append, ByteArray.size_append]
              show b.size + p.size + 1 + M.size ≤ _
              omega
            · rw [cat3, cat4]
              exact (unhide Hinv).next hc2 (unhide Hgood) (unhide HM)
          case measure =>
            simp only [intOf]
            omega
        · have i3 : ¬ (i : Int) < (gs.length : Int) := by omega
          go_wp2
          go_roundw
          case rel =>
            refine ⟨i + 1, _, _, by omega, by omega, by go_num, rfl, rfl, ?_, ?_, ?_, b04⟩
            · rw [ByteArray.size_append, ByteArray.size_append]
              show a.size + p.size + 1 ≤ _
              omega
            · rw [ByteArray.size_append, ByteArray.size_append]
              show b.size + p.size + 1 ≤ _
              omega
            · rw [cat3, cat3]
              have := (unhide Hinv).next hc2 (unhide Hgood) (g := []) (by decide)
              rw [List.append_nil] at this
              exact this
          case measure =>
            simp only [intOf]
            omega
      · have hx : (E != 0) = true := by simpa using hE0
        clear hE0
        go_wp2
        go_ret
        exact ⟨rfl, b04⟩
    · have hcc : ¬ ((i : Int) < (ns.length : Int)) ∨ ((i : Int) < (ns.length : Int) ∧ ¬ ((i : Int) < 25)) := by omega
      by_cases hl6 : 600 < a.size ∨ 600 < b.size
      · have hl7 : (600 : Int) < (a.size : Int) ∨ (¬ (600 : Int) < (a.size : Int) ∧ (600 : Int) < (b.size : Int)) := by omega
        rcases hcc with i1 | ⟨i1, i2⟩
        all_goals (
          rcases hl7 with i3 | ⟨i3, i4⟩
          all_goals (
            go_wp2
            go_ret
            exact ⟨rfl, hbw⟩))
      · have i3 : ¬ (600 : Int) < (a.size : Int) := by omega
        have i4 : ¬ (600 : Int) < (b.size : Int) := by omega
        obtain ⟨X, Y, hX, hY, hXY, hX50, hat⟩ := (unhide Hinv).toks (by rw [← Lib.size_eq]; omega) (by rw [← Lib.size_eq]; omega) hi25
        have T1 := fun W h => tokens_any a W h (by omega)
        have T2 := fun W h => tokens_any b W h (by omega)
        rw [hX] at T1
        rw [hY] at T2
        simp only at T1 T2
        have Hat := hide hat
        clear hat hX hY
        obtain ⟨n, hnY⟩ : ∃ n, n = Y.length := ⟨_, rfl⟩
        rw [show X.length = n by omega] at T1
        rw [← hnY] at T2
        have HnX := hide (show X.length = n by omega)
        have HnY := hide (show Y.length = n by omega)
        have hn50 : n ≤ 50 := by omega
        clear hXY hX50 hnY
        have hS4 := hS.below hbw
        rcases hcc with i1 | ⟨i1, i2⟩
        all_goals (
          go_wp2_with fail
          refine (T1 _ hS4).mono ?_
          rintro e w5 ⟨v5, rfl, hown5, b5⟩
          rw [← unhide HnX] at hown5
          obtain ⟨a5, c5, e5, hrow5⟩ := rowT_own hown5
          rw [unhide HnX] at e5
          subst e5
          clear hown5
          go_wp2_with fail
          refine (T2 _ (hS4.below b5)).mono ?_
          rintro e w6 ⟨v6, rfl, hown6, b6⟩
          rw [← unhide HnY] at hown6
          obtain ⟨a6, c6, e6, hrow6⟩ := rowT_own hown6
          rw [unhide HnY] at e6
          subst e6
          have hrow5' := hrow5.below b6
          clear hown6 hrow5
          have b06 := hbw.trans ((b5.trans (b6.mono b5.size)).mono hbw.size)
          go_wp2
          go_loopw [17] (fun iv wr => ∃ k : Nat, k ≤ n ∧ iv = .int .i64 k ∧ wr.heap = w6.heap ∧ Below w6.heap.size w6 wr) (fun iv _ => n - (intOf iv).toNat)
          case atStart => exact ⟨0, Nat.zero_le _, rfl, rfl, Below.refl _ _⟩
          case round =>
            obtain ⟨k, hk, rfl, hheap, hb7⟩ := hrel
            by_cases hkn : k < n
            · have j1 : (k : Int) < (n : Int) := by omega
              have hkX : k < X.length := by rw [unhide HnX]; exact hkn
              have hkY : k < Y.length := by rw [unhide HnY]; exact hkn
              obtain ⟨e1, e2, e3, e4⟩ := unhide Hat k hkX hkY
              obtain ⟨g, rfl, _, A⟩ := hrow5' k hkX
              obtain ⟨h, rfl, _, B⟩ := hrow6 k hkY
              rw [e1, e2, e3] at A
              have cl : ∀ q, wr.cell? q = w6.cell? q := fun q => by simp [World.cell?, hheap]
              obtain ⟨a0, a1, a2, a3⟩ := A
              obtain ⟨b0, b1, b2, b3⟩ := B
              rw [← cl] at a0 a1 a2 a3 b0 b1 b2 b3
              have Hheap := hide hheap
              by_cases hk0 : 0 < k
              · obtain ⟨k', rfl⟩ : ∃ k', k = k' + 1 := ⟨k - 1, by omega⟩
                have e5 := e4 hk0
                obtain ⟨h', hh', _, C⟩ := hrow6 k' (by omega)
                cases hh'
                obtain ⟨_, _, _, d3⟩ := C
                rw [← cl] at d3
                have e6 : Y[k'].p < Y[k' + 1].p := e5
                generalize Y[k'].p = px at *
                generalize Y[k' + 1].p = pp at *
                generalize Y[k' + 1].k = kk at *
                generalize Y[k' + 1].n = nn at *
                generalize (ByteArray.mk (Y[k' + 1].s).toArray) = yy at *
                have j2 : (0 : Int) < (k' : Int) + 1 := by omega
                have j3 : ¬ (pp : Int) ≤ (px : Int) := by omega
                have j4 : decide ((pp : Int) ≤ (px : Int)) = false := decide_eq_false j3
                clear e1 e2 e3 e4 e5 e6 cl hheap
                go_wp2
                go_quiet (fail)
                go_wp2
                go_roundw
                case rel => exact ⟨k' + 1 + 1, by omega, by go_num, unhide Hheap, below_drewN hb7 _⟩
                case measure =>
                  simp only [intOf]
                  omega
              · obtain rfl : k = 0 := by omega
                generalize Y[0].p = pp at *
                generalize Y[0].k = kk at *
                generalize Y[0].n = nn at *
                generalize (ByteArray.mk (Y[0].s).toArray) = yy at *
                clear e1 e2 e3 e4 cl hheap
                go_wp2
                go_quiet (fail)
                go_wp2
                go_roundw
                case rel => exact ⟨1, by omega, by go_num, unhide Hheap, below_drewN hb7 _⟩
                case measure =>
                  simp only [intOf]
                  omega
            · have j1 : ¬ (k : Int) < (n : Int) := by omega
              go_wp2
              go_ret
              exact ⟨rfl, b06.trans (hb7.mono b06.size)⟩)
end Go.Proofs.YtfkbbenjmhngcaaDoor
