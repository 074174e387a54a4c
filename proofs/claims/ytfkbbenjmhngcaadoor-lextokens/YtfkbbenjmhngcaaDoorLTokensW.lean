/-
  chancellaw4.LexTokens: the walk.
-/
import Derived.Test.YtfkbbenjmhngcaaDoorLeyB
namespace Go.Proofs.YtfkbbenjmhngcaaDoor
open Go.RowKit

theorem lident_any (s : ByteArray) (w : World) (hs : s.size ≤ 1099511627776) : Calls Tryd.prog 15 #[.string s] w fun e w' => e = .returned (.bool (nameB s.data.toList)) ∧ Below w.heap.size w w' := by
  have N := fun w => isName_any s w hs
  go_enter Tryd.func15, Tryd.ntmps15
  go_wp2_with fail
  refine (N _).mono ?_
  rintro e w1 ⟨rfl, b1⟩
  go_wp2
  go_ret
  exact ⟨rfl, b1⟩

theorem toksF_len : ∀ (f : Nat) (l : List UInt8) (a : Nat) (acc : List Tok), acc.length ≤ 200 → (toksF f l a acc).1.length ≤ 200
  | 0, l, a, acc, h => by simp [toksF]
  | f + 1, l, a, acc, h => by
    rw [toksF]
    split
    · exact h
    · split
      · exact toksF_len f _ _ _ h
      · split
        · split
          · simp
          · exact toksF_len f _ _ _ (by simp; omega)
        · simp
theorem toks_len (l : List UInt8) : (toks l).1.length ≤ 200 := by
  unfold toks
  split
  · simp
  · split
    · exact toksF_len _ _ _ _ (by simp)
    · simp

def gapV : Array Value := #[.string ⟨#[]⟩, .string ⟨#[32]⟩, .string ⟨#[10]⟩, .string ⟨#[9, 32]⟩, .string ⟨#[47, 47, 32, 120, 10]⟩, .string ⟨#[13]⟩, .string ⟨#[47, 47]⟩]
theorem gap_at (q : Int) (h0 : 0 ≤ q) (h7 : q < 7) (W : World) : ∃ M : ByteArray, M.size ≤ 5 ∧ (W.alloc (.cells gapV 9)).cell? ⟨W.heap.size, q.toNat, none⟩ = some (.string M) := by
  have hj : q = 0 ∨ q = 1 ∨ q = 2 ∨ q = 3 ∨ q = 4 ∨ q = 5 ∨ q = 6 := by omega
  rcases hj with rfl | rfl | rfl | rfl | rfl | rfl | rfl
  · exact ⟨⟨#[]⟩, by decide, by simp [gapV]⟩
  · exact ⟨⟨#[32]⟩, by decide, by simp [gapV]⟩
  · exact ⟨⟨#[10]⟩, by decide, by simp [gapV]⟩
  · exact ⟨⟨#[9, 32]⟩, by decide, by simp [gapV]⟩
  · exact ⟨⟨#[47, 47, 32, 120, 10]⟩, by decide, by simp [gapV]⟩
  · exact ⟨⟨#[13]⟩, by decide, by simp [gapV]⟩
  · exact ⟨⟨#[47, 47]⟩, by decide, by simp [gapV]⟩

set_option maxHeartbeats 4000000 in
set_option maxRecDepth 1000000 in
theorem tokens_walk (s : ByteArray) (ns : List Int) (ao : Option Addr) (ca : Nat) (rs : List Int) (bo : Option Addr) (cb : Nat) (gs : List Int) (co : Option Addr) (cc : Nat) (w : World) (hS : Signs w)
    (hrl : rs.length ≤ 9223372036854775807) (hn : IntsAt w ao ns) (hr : IntsAt w bo rs) (hg : IntsAt w co gs) :
    Calls Tryd.prog 3 #[.string s, .slice ao ns.length ca, .slice bo rs.length cb, .slice co gs.length cc] w fun e w' => e = .returned (.bool true) ∧ Below w.heap.size w w' := by
  have K := known4_any w hS
  by_cases h1000 : 1000 < s.size
  · have i0 : (1000 : Int) < (s.size : Int) := by omega
    go_enter Tryd.func3, Tryd.ntmps3
    go_wp2_with fail
    refine K.mono ?_
    rintro e w1 ⟨rfl, b1⟩
    go_wp2
    go_ret
    exact ⟨rfl, b1⟩
  have i0 : ¬ (1000 : Int) < (s.size : Int) := by omega
  go_enter Tryd.func3, Tryd.ntmps3
  go_wp2_with fail
  refine K.mono ?_
  rintro e w1 ⟨rfl, b1⟩
  go_wp2
  go_loopw [9, 10] (fun tv iv wr => ∃ (i : Nat) (t : ByteArray), i ≤ ns.length ∧ i ≤ 60 ∧ iv = .int .i64 i ∧ tv = .string t ∧ t.size ≤ 305 * i ∧ Below w.heap.size w wr) (fun _ iv _ => 60 - (intOf iv).toNat)
  case atStart => exact ⟨0, _, Nat.zero_le _, by decide, rfl, rfl, by decide, b1⟩
  case round =>
    obtain ⟨i, t, hi, hi60, rfl, rfl, hts, hbw⟩ := hrel
    have hts2 : t.size ≤ 18300 := by omega
    by_cases hc : i < ns.length ∧ i < 60
    · obtain ⟨hc1, hc2⟩ := hc
      have i1 : (i : Int) < (ns.length : Int) := by omega
      have i2 : (i : Int) < 60 := by omega
      obtain ⟨b, off, rfl, hb, hcell⟩ := hn i hc1
      have hcell2 := (hbw.cell (p := ⟨b, off + i, none⟩) hb).trans hcell
      have hr2 := hr.below hbw
      generalize ns[i] = x at *
      clear hcell
      have P := piece4_any x rs bo cb wr hrl hr2
      go_wp2_with fail
      refine P.mono ?_
      rintro e w3 ⟨p, rfl, hps, _, b3⟩
      have b03 := hbw.trans (b3.mono hbw.size)
      by_cases hgl : i < gs.length
      · have i3 : (i : Int) < (gs.length : Int) := by omega
        obtain ⟨b', off', rfl, hb', hcell'⟩ := hg i hgl
        have b4 : Below w.heap.size w (w3.alloc (.cells gapV 9)) := b03.alloc b03.size _
        have hcell4 := (b4.cell (p := ⟨b', off' + i, none⟩) hb').trans hcell'
        generalize gs[i] = y at *
        clear hcell' hcell2
        have W7 := within4_any y 7 (by decide) (by decide)
        obtain ⟨q, hq⟩ : ∃ q, q = y % 7 := ⟨_, rfl⟩
        have q0 : 0 ≤ q := by omega
        have q1 : q < 7 := by omega
        rw [← hq] at W7
        clear hq
        obtain ⟨M, hMs, hMc⟩ := gap_at q q0 q1 w3
        unfold gapV at hMc b4 hcell4
        go_wp2_with fail
        generalize w3.alloc _ = w4 at *
        refine (W7 _).mono ?_
        rintro e w5 ⟨rfl, rfl⟩
        go_wp2
        go_roundw
        case rel => exact ⟨i + 1, _, by omega, by omega, by go_num, rfl, by rw [ByteArray.size_append, ByteArray.size_append]; omega, b4⟩
        case measure =>
          simp only [intOf]
          omega
      · have i3 : ¬ (i : Int) < (gs.length : Int) := by omega
        clear hcell2
        go_wp2
        go_roundw
        case rel => exact ⟨i + 1, _, by omega, by omega, by go_num, rfl, by rw [ByteArray.size_append]; omega, b03⟩
        case measure =>
          simp only [intOf]
          omega
    · have hcc : ¬ ((i : Int) < (ns.length : Int)) ∨ ((i : Int) < (ns.length : Int) ∧ ¬ ((i : Int) < 60)) := by omega
      have hss : s.size ≤ 1000 := by omega
      have b4 : Below w.heap.size w (wr.alloc (.cells #[.string s, .string t, .string (t ++ s)] 9)) := hbw.alloc hbw.size _
      have hrow : (wr.alloc (.cells #[.string s, .string t, .string (t ++ s)] 9)).heap[wr.heap.size]? = some (.cells #[.string s, .string t, .string (t ++ s)] 9 (0, 0)) := alloc_heap _ _
      have hts3 : (t ++ s).size ≤ 19300 := by rw [ByteArray.size_append]; omega
      rcases hcc with i1 | ⟨i1, i2⟩
      all_goals (
        go_wp2
        generalize wr.alloc _ = w4 at *
        generalize wr.heap.size = B at *
        have cells : ∀ k : Nat, k < 3 → ∃ X : ByteArray, X.size ≤ 19300 ∧ w4.cell? ⟨B, k, none⟩ = some (.string X) := by
          intro k hk
          have h3 : k = 0 ∨ k = 1 ∨ k = 2 := by omega
          rcases h3 with rfl | rfl | rfl
          · exact ⟨s, by omega, by rw [Lib.cell_of_heap hrow]; rfl⟩
          · exact ⟨t, by omega, by rw [Lib.cell_of_heap hrow]; rfl⟩
          · exact ⟨t ++ s, hts3, by rw [Lib.cell_of_heap hrow]; rfl⟩
        have hBs : B < w4.heap.size := (Array.getElem?_eq_some_iff.1 hrow).1
        have Hcells := hide cells
        clear cells hrow
        have hS4 := hS.below b4
        go_loopw [12] (fun kv wr => ∃ k : Nat, k ≤ 3 ∧ kv = .int .i64 k ∧ Below w4.heap.size w4 wr) (fun kv _ => 3 - (intOf kv).toNat)
        case atStart => exact ⟨0, Nat.zero_le _, rfl, Below.refl _ _⟩
        case round =>
          obtain ⟨k, hk, rfl, hb5⟩ := hrel
          by_cases hk3 : k < 3
          · have i4 : (k : Int) < 3 := by omega
            obtain ⟨X, hXs, hXc⟩ := unhide Hcells k hk3
            have hXc2 := (hb5.cell (p := ⟨B, k, none⟩) hBs).trans hXc
            have T := fun W h => tokens_any X W h (by omega)
            have U := fun W => rtokens_any X W (by omega)
            have htl : (toks X.data.toList).1.length ≤ 200 := toks_len _
            generalize toks X.data.toList = TE at *
            obtain ⟨ts, E⟩ := TE
            simp only at T U htl
            go_wp2_with fail
            refine (T _ (hS4.below hb5)).mono ?_
            rintro e w6 ⟨v6, rfl, hown6, b6⟩
            obtain ⟨a6, c6, rfl, hrow6⟩ := rowT_own hown6
            have hXc3 := (b6.cell (p := ⟨B, k, none⟩) (by have := hb5.size; show B < _; omega)).trans hXc2
            clear hown6 hXc2 hXc
            go_wp2_with fail
            refine (U _).mono ?_
            rintro e w7 ⟨v7, rfl, hown7, b7⟩
            obtain ⟨a7, c7, rfl, hrow7⟩ := rowT_own hown7
            have hrow6' := hrow6.below b7
            clear hown7 hrow6 hXc3
            have S := same4_row ts (by omega) a6 a7 c6 c7 w7 hrow6' hrow7
            go_wp2_with fail
            refine S.mono ?_
            rintro e w8 ⟨rfl, b8⟩
            have b58 := hb5.trans ((b6.trans ((b7.trans (b8.mono b7.size)).mono b6.size)).mono hb5.size)
            go_wp2
            go_roundw
            case rel => exact ⟨k + 1, by omega, by go_num, b58⟩
            case measure =>
              simp only [intOf]
              omega
          · have i4 : ¬ (k : Int) < 3 := by omega
            have J1 := fun W => lident_any s W (by omega)
            have J2 := fun W => rident_any s W (by omega)
            have J3 := fun W => lident_any t W (by omega)
            have J4 := fun W => rident_any t W (by omega)
            generalize nameB s.data.toList = nb1 at *
            generalize nameB t.data.toList = nb2 at *
            go_wp2_with fail
            refine (J1 _).mono ?_
            rintro e w6 ⟨rfl, b6⟩
            go_wp2_with fail
            refine (J2 _).mono ?_
            rintro e w7 ⟨rfl, rfl⟩
            go_wp2_with fail
            refine (J3 _).mono ?_
            rintro e w8 ⟨rfl, b8⟩
            go_wp2_with fail
            refine (J4 _).mono ?_
            rintro e w9 ⟨rfl, rfl⟩
            have b09 := b4.trans ((hb5.trans ((b6.trans (b8.mono b6.size)).mono hb5.size)).mono b4.size)
            go_wp2
            go_ret
            exact ⟨by simp, b09⟩)
end Go.Proofs.YtfkbbenjmhngcaaDoor
