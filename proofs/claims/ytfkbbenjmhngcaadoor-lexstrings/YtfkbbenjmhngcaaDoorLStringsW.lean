/-
  chancellaw4.LexStrings: the walk.
-/
import Derived.Test.YtfkbbenjmhngcaaDoorLexK
import Derived.Test.YtfkbbenjmhngcaaDoorLexS
import Derived.Test.YtfkbbenjmhngcaaDoorLQuote
import Derived.Test.YtfkbbenjmhngcaaDoorLArgs
namespace Go.Proofs.YtfkbbenjmhngcaaDoor
open Go.RowKit

def saysV : Array Value := #[.string ⟨#[47, 47, 32, 110, 111]⟩, .string ⟨#[32, 43, 32]⟩, .string ⟨#[34]⟩, .string ⟨#[97, 32, 98]⟩, .string ⟨#[]⟩]
theorem says_at (q : Int) (h0 : 0 ≤ q) (h5 : q < 5) (W : World) : ∃ (M : ByteArray) (ys : List Int), M.data.toList = ofL ys ∧ ofOk ys = true ∧ (∀ y ∈ ys, 0 ≤ y ∧ y < 128) ∧ M.size ≤ 5 ∧ (W.alloc (.cells saysV 9)).cell? ⟨W.heap.size, q.toNat, none⟩ = some (.string M) := by
  have hj5 : q = 0 ∨ q = 1 ∨ q = 2 ∨ q = 3 ∨ q = 4 := by omega
  rcases hj5 with rfl | rfl | rfl | rfl | rfl
  · exact ⟨⟨#[47, 47, 32, 110, 111]⟩, [47, 47, 32, 110, 111], by decide, by decide, by decide, by decide, by simp [saysV]⟩
  · exact ⟨⟨#[32, 43, 32]⟩, [32, 43, 32], by decide, by decide, by decide, by decide, by simp [saysV]⟩
  · exact ⟨⟨#[34]⟩, [34], by decide, by decide, by decide, by decide, by simp [saysV]⟩
  · exact ⟨⟨#[97, 32, 98]⟩, [97, 32, 98], by decide, by decide, by decide, by decide, by simp [saysV]⟩
  · exact ⟨⟨#[]⟩, [], by decide, by decide, by decide, by decide, by simp [saysV]⟩

theorem ofL_low : ∀ (xs : List Int), (∀ x ∈ xs, 0 ≤ x ∧ x < 128) → (ofL xs).length = xs.length
  | [], _ => rfl
  | x :: r, h => by
    have hx := h x (by simp)
    have := ofL_low r (fun y hy => h y (by simp [hy]))
    rw [ofL, List.flatMap_cons, List.length_append, enc_len1 hx.1 hx.2, List.length_cons]
    rw [ofL] at this
    omega
theorem ofOk_low : ∀ (xs : List Int), (∀ x ∈ xs, 0 ≤ x ∧ x < 128) → ofOk xs = true := by
  intro xs h
  rw [ofOk, List.all_eq_true]
  intro x hx
  have := h x hx
  simp only [Lib.validRune, decide_eq_true_eq]
  omega
theorem quote_len (xs : List Int) (h : ofOk xs = true) (hl : xs.length ≤ 30) : (quoteL (ofL xs)).length ≤ 200 := by
  have : ∀ l : List Int, (l.flatMap quoL).length ≤ 6 * l.length := by
    intro l
    induction l with
    | nil => simp
    | cons x r ih =>
      have := quoL_len x
      rw [List.flatMap_cons, List.length_append, List.length_cons]
      omega
  rw [quoteL, runes_ofL xs h, List.length_cons, List.length_append]
  have := this xs
  rw [List.length_singleton]
  omega

/-- The letters that are made so far. -/
def letters (zs : List Int) : List Int := zs.map fun z => 97 + z % 26
theorem letters_low (zs : List Int) : ∀ x ∈ letters zs, 0 ≤ x ∧ x < 128 := by
  intro x hx
  obtain ⟨z, _, rfl⟩ := List.mem_map.1 hx
  omega

set_option maxHeartbeats 4000000 in
set_option maxRecDepth 1000000 in
theorem strings_walk (zs : List Int) (ao : Option Addr) (cap : Nat) (x : Int) (w : World) (hS : Signs w) (hcap : zs.length ≤ cap) (hz : IntsAt w ao zs) :
    Calls Tryd.prog 8 #[.slice ao zs.length cap, .int .i64 x] w fun e w' => e = .returned (.bool true) ∧ Below w.heap.size w w' := by
  obtain ⟨i0, hi, hi0, hi1, hi2⟩ := info_parts infoRune
  have K := known4_any w hS
  have W5 := within4_any x 5 (by decide) (by decide)
  obtain ⟨q, hq⟩ : ∃ q, q = x % 5 := ⟨_, rfl⟩
  have q0 : 0 ≤ q := by omega
  have q1 : q < 5 := by omega
  rw [← hq] at W5
  clear hq
  by_cases hc25 : 25 < zs.length
  · have i25 : (25 : Int) < (zs.length : Int) := by omega
    have hz2 : IntsAt w ao (zs.take 25) := fun j hj => by
      rw [List.length_take] at hj
      obtain ⟨b, off, e, h1, h2⟩ := hz j (by omega)
      exact ⟨b, off, e, h1, by rw [h2, List.getElem_take]⟩
    have hl2 : (zs.take 25).length = 25 := by rw [List.length_take]; omega
    have hao : ∃ b off, ao = some ⟨b, off, none⟩ := by
      obtain ⟨b, off, e, _⟩ := hz 0 (by omega)
      exact ⟨b, off, e⟩
    obtain ⟨b0, off0, rfl⟩ := hao
    have hc1 : 25 ≤ cap := by omega
    go_enter Tryd.func8, Tryd.ntmps8
    go_wp2_with fail
    refine K.mono ?_
    rintro e w1 ⟨rfl, b1⟩
    obtain ⟨M, ys, hM, hok, hlo, hMs, hcell⟩ := says_at q q0 q1 w1
    have b2 : Below w.heap.size w (w1.alloc (.cells saysV 9)) := b1.alloc b1.size _
    unfold saysV at hcell b2
    go_wp2_with fail
    generalize w1.alloc _ = w2 at *
    refine (W5 _).mono ?_
    rintro e w2' ⟨rfl, rfl⟩
    have hS2 := hS.below b2
    have hz3 := hz2.below b2
    go_wp2
    go_loopw [6, 7] (fun xv iv wr => ∃ k : Nat, k ≤ 25 ∧ iv = .int .i64 k ∧ wr.ownsRow w2'.heap.size 21 1 xv (letters ((zs.take 25).take k)).length ((letters ((zs.take 25).take k)).map (Value.int .i32)) ∧ Below w2'.heap.size w2' wr) (fun _ iv _ => 25 - (intOf iv).toNat)
    case atStart => exact ⟨0, Nat.zero_le _, rfl, ⟨by simp [letters], .inl ⟨rfl, by simp [letters]⟩⟩, Below.refl _ _⟩
    case round =>
      obtain ⟨k, hk, rfl, hown, hbw⟩ := hrel
      have hsz := hbw.size
      obtain ⟨L, hL⟩ : ∃ L, L = letters ((zs.take 25).take k) := ⟨_, rfl⟩
      have hLl : L.length ≤ 25 := by rw [hL, letters, List.length_map, List.length_take]; omega
      rw [← hL] at hown
      have HL := hide hL
      clear hL
      by_cases hlt : k < 25
      · have i1 : (k : Int) < (25 : Int) := by omega
        obtain ⟨b, off, e0, hb, hc⟩ := hz3 k (by omega)
        cases e0
        have hc2 := (hbw.cell (p := ⟨b0, off0 + k, none⟩) hb).trans hc
        have HT := hide (List.take_succ_eq_append_getElem (l := (zs.take 25)) (i := k) (by omega))
        generalize ((zs.take 25))[k]'(by omega) = z at *
        clear hc
        have W26 := within4_any z 26 (by decide) (by decide)
        obtain ⟨r, hr⟩ : ∃ r, r = z % 26 := ⟨_, rfl⟩
        have r0 : 0 ≤ r := by omega
        have r1 : r < 26 := by omega
        rw [← hr] at W26
        have HR := hide hr
        clear hr
        go_wp2_with fail
        refine (W26 _).mono ?_
        rintro e w4 ⟨rfl, rfl⟩
        go_wp2_with (at_builtin; refine wpList_append_own _ rfl _ _ 46 rfl w2'.heap.size 21 i0 (.int .i32 0) 1 4 Tryd.underlying46 hi hi0 hi1 hi2 rfl (by decide) _ _ _ rfl (hown.alloc _) ⟨w4.heap.size, 0, none⟩ 1 1 [.int .i32 (97 + r)] rfl rfl ?c1 ?c2 ?c3 ?c4 ?c5 ?_)
        case c1 =>
          intro j u hj
          match j, hj with
          | 0, hj => simp at hj; subst hj; simp [Addr.add]
        case c2 => intro u hu; simp at hu; subst hu; rfl
        case c3 => unfold maxLen; omega
        case c4 => omega
        case c5 => simp; omega
        intro v' w5 hown' hgrow _
        have hb5 := (hbw.alloc (by omega) (.cells #[.int .i32 (97 + r)] 21)).grown hgrow (by simp; omega) (fun g hg => by have := (hown.lt g hg).1; omega)
        go_wp2
        go_roundw
        case rel =>
          refine ⟨k + 1, by omega, by go_num, ?_, hb5⟩
          rw [unhide HT, letters, List.map_append, ← letters, ← unhide HL, List.map_append, List.length_append]
          rw [unhide HR] at hown'
          exact hown'
        case measure =>
          simp only [intOf]
          omega
      · obtain rfl : k = 25 := by omega
        rw [List.take_of_length_le (by omega)] at HL
        have hlowX := letters_low (zs.take 25)
        rw [← unhide HL] at hlowX
        have Hlow := hide hlowX
        have hokX := ofOk_low L hlowX
        have hlenX := ofL_low L hlowX
        obtain ⟨lo, lc, rfl, hlrow, _, _⟩ := rowAt_owns hown
        have R := fun W h => rof_any L lo lc W (by omega) h
        rw [ofS_ok hokX, ofE_ok hokX] at R
        obtain ⟨t, ht⟩ : ∃ t : ByteArray, t = ⟨(ofL L).toArray⟩ := ⟨_, rfl⟩
        rw [← ht] at R
        have htl : t.data.toList = ofL L := by rw [ht]
        have hts : t.size ≤ 25 := by rw [Lib.size_eq, htl, hlenX]; exact hLl
        have hokA : ofOk (L ++ ys) = true := by rw [ofOk, List.all_append, ← ofOk, ← ofOk, hokX, hok]; rfl
        have hcat : (t ++ M).data.toList = ofL (L ++ ys) := by
          rw [show (t ++ M).data.toList = t.data.toList ++ M.data.toList by simp, htl, hM]
          simp [ofL]
        have hlen30 : t.size + M.size ≤ 30 → (L ++ ys).length ≤ 30 := by
          rw [Lib.size_eq, Lib.size_eq, htl, hM, hlenX, ofL_low ys hlo, List.length_append]
          exact id
        have htsz : (t ++ M).size ≤ 30 := by rw [ByteArray.size_append]; omega
        have Q := fun W => rquote_any (t ++ M) W (by omega)
        rw [hcat, bquote_ofL _ hokA] at Q
        obtain ⟨qs, hqs⟩ : ∃ qs : ByteArray, qs = ⟨(quoteL (ofL (L ++ ys))).toArray⟩ := ⟨_, rfl⟩
        rw [← hqs] at Q
        have hql : qs.data.toList = quoteL (ofL (L ++ ys)) := by rw [hqs]
        have b02 := b2.trans (hbw.mono b2.size)
        have Hcat := hide hcat
        have Hql := hide hql
        have Hok := hide hokA
        have H30 := hide hlen30
        clear hcat hql hqs hokA hlen30 ht htl hokX hlenX hlowX hlo hM hok
        by_cases h30 : 30 < t.size + M.size
        · have i3 : (30 : Int) < (t.size : Int) + (M.size : Int) := by omega
          go_wp2_with fail
          refine (R _ hlrow).mono ?_
          rintro e w6 ⟨rfl, b6⟩
          go_wp2
          go_ret
          exact ⟨rfl, b02.trans (b6.mono b02.size)⟩
        · have i3 : ¬ (30 : Int) < (t.size : Int) + (M.size : Int) := by omega
          have h30' := unhide H30 (by omega)
          have hqsz : qs.size ≤ 200 := by rw [Lib.size_eq, unhide Hql]; exact quote_len _ (unhide Hok) h30'
          have T := fun W h => tokens_any ((⟨#[32]⟩ ++ qs) ++ ⟨#[32, 47, 47, 32, 98, 101, 104, 105, 110, 100]⟩) W h (by rw [ByteArray.size_append, ByteArray.size_append]; show 1 + qs.size + 10 ≤ _; omega)
          rw [show (((⟨#[32]⟩ : ByteArray) ++ qs) ++ (⟨#[32, 47, 47, 32, 98, 101, 104, 105, 110, 100]⟩ : ByteArray)).data.toList = 32 :: (quoteL (ofL (L ++ ys)) ++ [32, 47, 47, 32, 98, 101, 104, 105, 110, 100]) by simp [unhide Hql],
            toks_str (L ++ ys) (unhide Hok) h30' (by have := quote_len (L ++ ys) (unhide Hok) h30'; omega)] at T
          clear h30'
          go_wp2_with fail
          refine (R _ hlrow).mono ?_
          rintro e w6 ⟨rfl, b6⟩
          go_wp2_with fail
          refine (Q _).mono ?_
          rintro e w7 ⟨rfl, rfl⟩
          have b07 := b02.trans (b6.mono b02.size)
          go_wp2_with fail
          refine (T _ (hS.below b07)).mono ?_
          rintro e w8 ⟨v8, rfl, hown8, b8⟩
          obtain ⟨g8, cap8, rfl, _, _, _, hc8⟩ := owns_cells hown8 (by simp)
          have p0 := hc8 0 _ rfl
          have p1 := hc8 1 _ rfl
          have p3 := hc8 3 _ rfl
          have e8 : (⟨(ofL (L ++ ys)).toArray⟩ : ByteArray) = t ++ M := by rw [← unhide Hcat]
          rw [show (⟨(⟨3, ofL (L ++ ys), 0, 1⟩ : Tok).s.toArray⟩ : ByteArray) = t ++ M from e8] at p1
          clear hc8 hown8 e8
          go_wp2
          go_ret
          exact ⟨by simp, b07.trans (b8.mono b07.size)⟩
  · have i25 : ¬ (25 : Int) < (zs.length : Int) := by omega
    have hl2 : zs.length ≤ 25 := by omega
    go_enter Tryd.func8, Tryd.ntmps8
    go_wp2_with fail
    refine K.mono ?_
    rintro e w1 ⟨rfl, b1⟩
    obtain ⟨M, ys, hM, hok, hlo, hMs, hcell⟩ := says_at q q0 q1 w1
    have b2 : Below w.heap.size w (w1.alloc (.cells saysV 9)) := b1.alloc b1.size _
    unfold saysV at hcell b2
    go_wp2_with fail
    generalize w1.alloc _ = w2 at *
    refine (W5 _).mono ?_
    rintro e w2' ⟨rfl, rfl⟩
    have hS2 := hS.below b2
    have hz3 := hz.below b2
    go_wp2
    go_loopw [6, 7] (fun xv iv wr => ∃ k : Nat, k ≤ zs.length ∧ iv = .int .i64 k ∧ wr.ownsRow w2'.heap.size 21 1 xv (letters (zs.take k)).length ((letters (zs.take k)).map (Value.int .i32)) ∧ Below w2'.heap.size w2' wr) (fun _ iv _ => zs.length - (intOf iv).toNat)
    case atStart => exact ⟨0, Nat.zero_le _, rfl, ⟨by simp [letters], .inl ⟨rfl, by simp [letters]⟩⟩, Below.refl _ _⟩
    case round =>
      obtain ⟨k, hk, rfl, hown, hbw⟩ := hrel
      have hsz := hbw.size
      obtain ⟨L, hL⟩ : ∃ L, L = letters (zs.take k) := ⟨_, rfl⟩
      have hLl : L.length ≤ 25 := by rw [hL, letters, List.length_map, List.length_take]; omega
      rw [← hL] at hown
      have HL := hide hL
      clear hL
      by_cases hlt : k < zs.length
      · have i1 : (k : Int) < (zs.length : Int) := by omega
        obtain ⟨b, off, e0, hb, hc⟩ := hz3 k (by omega)
        cases e0
        have hc2 := (hbw.cell (p := ⟨b, off + k, none⟩) hb).trans hc
        have HT := hide (List.take_succ_eq_append_getElem (l := zs) (i := k) (by omega))
        generalize (zs)[k]'(by omega) = z at *
        clear hc
        have W26 := within4_any z 26 (by decide) (by decide)
        obtain ⟨r, hr⟩ : ∃ r, r = z % 26 := ⟨_, rfl⟩
        have r0 : 0 ≤ r := by omega
        have r1 : r < 26 := by omega
        rw [← hr] at W26
        have HR := hide hr
        clear hr
        go_wp2_with fail
        refine (W26 _).mono ?_
        rintro e w4 ⟨rfl, rfl⟩
        go_wp2_with (at_builtin; refine wpList_append_own _ rfl _ _ 46 rfl w2'.heap.size 21 i0 (.int .i32 0) 1 4 Tryd.underlying46 hi hi0 hi1 hi2 rfl (by decide) _ _ _ rfl (hown.alloc _) ⟨w4.heap.size, 0, none⟩ 1 1 [.int .i32 (97 + r)] rfl rfl ?d1 ?d2 ?d3 ?d4 ?d5 ?_)
        case d1 =>
          intro j u hj
          match j, hj with
          | 0, hj => simp at hj; subst hj; simp [Addr.add]
        case d2 => intro u hu; simp at hu; subst hu; rfl
        case d3 => unfold maxLen; omega
        case d4 => omega
        case d5 => simp; omega
        intro v' w5 hown' hgrow _
        have hb5 := (hbw.alloc (by omega) (.cells #[.int .i32 (97 + r)] 21)).grown hgrow (by simp; omega) (fun g hg => by have := (hown.lt g hg).1; omega)
        go_wp2
        go_roundw
        case rel =>
          refine ⟨k + 1, by omega, by go_num, ?_, hb5⟩
          rw [unhide HT, letters, List.map_append, ← letters, ← unhide HL, List.map_append, List.length_append]
          rw [unhide HR] at hown'
          exact hown'
        case measure =>
          simp only [intOf]
          omega
      · obtain rfl : k = zs.length := by omega
        rw [List.take_of_length_le (by omega)] at HL
        have hlowX := letters_low zs
        rw [← unhide HL] at hlowX
        have Hlow := hide hlowX
        have hokX := ofOk_low L hlowX
        have hlenX := ofL_low L hlowX
        obtain ⟨lo, lc, rfl, hlrow, _, _⟩ := rowAt_owns hown
        have R := fun W h => rof_any L lo lc W (by omega) h
        rw [ofS_ok hokX, ofE_ok hokX] at R
        obtain ⟨t, ht⟩ : ∃ t : ByteArray, t = ⟨(ofL L).toArray⟩ := ⟨_, rfl⟩
        rw [← ht] at R
        have htl : t.data.toList = ofL L := by rw [ht]
        have hts : t.size ≤ 25 := by rw [Lib.size_eq, htl, hlenX]; exact hLl
        have hokA : ofOk (L ++ ys) = true := by rw [ofOk, List.all_append, ← ofOk, ← ofOk, hokX, hok]; rfl
        have hcat : (t ++ M).data.toList = ofL (L ++ ys) := by
          rw [show (t ++ M).data.toList = t.data.toList ++ M.data.toList by simp, htl, hM]
          simp [ofL]
        have hlen30 : t.size + M.size ≤ 30 → (L ++ ys).length ≤ 30 := by
          rw [Lib.size_eq, Lib.size_eq, htl, hM, hlenX, ofL_low ys hlo, List.length_append]
          exact id
        have htsz : (t ++ M).size ≤ 30 := by rw [ByteArray.size_append]; omega
        have Q := fun W => rquote_any (t ++ M) W (by omega)
        rw [hcat, bquote_ofL _ hokA] at Q
        obtain ⟨qs, hqs⟩ : ∃ qs : ByteArray, qs = ⟨(quoteL (ofL (L ++ ys))).toArray⟩ := ⟨_, rfl⟩
        rw [← hqs] at Q
        have hql : qs.data.toList = quoteL (ofL (L ++ ys)) := by rw [hqs]
        have b02 := b2.trans (hbw.mono b2.size)
        have Hcat := hide hcat
        have Hql := hide hql
        have Hok := hide hokA
        have H30 := hide hlen30
        clear hcat hql hqs hokA hlen30 ht htl hokX hlenX hlowX hlo hM hok
        by_cases h30 : 30 < t.size + M.size
        · have i3 : (30 : Int) < (t.size : Int) + (M.size : Int) := by omega
          go_wp2_with fail
          refine (R _ hlrow).mono ?_
          rintro e w6 ⟨rfl, b6⟩
          go_wp2
          go_ret
          exact ⟨rfl, b02.trans (b6.mono b02.size)⟩
        · have i3 : ¬ (30 : Int) < (t.size : Int) + (M.size : Int) := by omega
          have h30' := unhide H30 (by omega)
          have hqsz : qs.size ≤ 200 := by rw [Lib.size_eq, unhide Hql]; exact quote_len _ (unhide Hok) h30'
          have T := fun W h => tokens_any ((⟨#[32]⟩ ++ qs) ++ ⟨#[32, 47, 47, 32, 98, 101, 104, 105, 110, 100]⟩) W h (by rw [ByteArray.size_append, ByteArray.size_append]; show 1 + qs.size + 10 ≤ _; omega)
          rw [show (((⟨#[32]⟩ : ByteArray) ++ qs) ++ (⟨#[32, 47, 47, 32, 98, 101, 104, 105, 110, 100]⟩ : ByteArray)).data.toList = 32 :: (quoteL (ofL (L ++ ys)) ++ [32, 47, 47, 32, 98, 101, 104, 105, 110, 100]) by simp [unhide Hql],
            toks_str (L ++ ys) (unhide Hok) h30' (by have := quote_len (L ++ ys) (unhide Hok) h30'; omega)] at T
          clear h30'
          go_wp2_with fail
          refine (R _ hlrow).mono ?_
          rintro e w6 ⟨rfl, b6⟩
          go_wp2_with fail
          refine (Q _).mono ?_
          rintro e w7 ⟨rfl, rfl⟩
          have b07 := b02.trans (b6.mono b02.size)
          go_wp2_with fail
          refine (T _ (hS.below b07)).mono ?_
          rintro e w8 ⟨v8, rfl, hown8, b8⟩
          obtain ⟨g8, cap8, rfl, _, _, _, hc8⟩ := owns_cells hown8 (by simp)
          have p0 := hc8 0 _ rfl
          have p1 := hc8 1 _ rfl
          have p3 := hc8 3 _ rfl
          have e8 : (⟨(ofL (L ++ ys)).toArray⟩ : ByteArray) = t ++ M := by rw [← unhide Hcat]
          rw [show (⟨(⟨3, ofL (L ++ ys), 0, 1⟩ : Tok).s.toArray⟩ : ByteArray) = t ++ M from e8] at p1
          clear hc8 hown8 e8
          go_wp2
          go_ret
          exact ⟨by simp, b07.trans (b8.mono b07.size)⟩
end Go.Proofs.YtfkbbenjmhngcaaDoor
