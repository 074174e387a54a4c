/-
  chancellaw4.LexBounds: the walk.
-/
import Derived.Test.YtfkbbenjmhngcaaDoorLexK
import Derived.Test.YtfkbbenjmhngcaaDoorLexU
import Derived.Test.YtfkbbenjmhngcaaDoorLQuote
import Derived.Test.YtfkbbenjmhngcaaDoorLArgs
namespace Go.Proofs.YtfkbbenjmhngcaaDoor
open Go.RowKit

def strLen : Value → Nat
  | .string t => t.size
  | _ => 0
theorem rep_next {t : ByteArray} {k : Nat} {c : UInt8} (h : t.data.toList = List.replicate k c) : (t ++ (⟨#[c]⟩ : ByteArray)).data.toList = List.replicate (k + 1) c := by
  rw [show (t ++ (⟨#[c]⟩ : ByteArray)).data.toList = t.data.toList ++ [c] by simp, h, List.replicate_succ']
theorem rep_size {t : ByteArray} {k : Nat} {c : UInt8} (h : t.data.toList = List.replicate k c) : t.size = k := by rw [Lib.size_eq, h, List.length_replicate]

theorem infoInt : (Tryd.prog.info? 3).map (fun i => (i.zero, i.size, i.bytes)) = some (some (.int .i64 0), 1, 8) := by kernel_rfl
theorem intsAt_own {w : World} {B : Nat} {v : Value} {zs : List Int} (h : w.ownsRow B 3 1 v zs.length (zs.map (Value.int .i64))) : ∃ ao cap, v = .slice ao zs.length cap ∧ IntsAt w ao zs := by
  obtain ⟨ao, cap, e⟩ := owns_any h
  refine ⟨ao, cap, e, fun j hj => ?_⟩
  obtain ⟨g, cap', e', _, hg, _, hc⟩ := owns_cells h (by omega)
  rw [e] at e'
  cases e'
  exact ⟨g, 0, rfl, hg, by rw [Nat.zero_add]; exact hc j _ (by simp [hj])⟩

set_option maxHeartbeats 4000000 in
set_option maxRecDepth 1000000 in
theorem bounds_0 (which n : Nat) (x y : Int) (hx : (which : Int) = x % 4) (hy : (n : Int) = y % 4) (hw : which = 0) (w : World) (hS : Signs w) :
    Calls Tryd.prog 5 #[.int .i64 x, .int .i64 y] w fun e w' => e = .returned (.bool true) ∧ Below w.heap.size w w' := by
  have K := known4_any w hS
  have W1 := within4_any y 4 (by decide) (by decide)
  have W2 := within4_any x 4 (by decide) (by decide)
  have hn4 : n < 4 := by omega
  rw [← hy] at W1
  rw [← hx, hw] at W2
  clear hx hy hw
  go_enter Tryd.func5, Tryd.ntmps5
  go_wp2_with fail
  refine K.mono ?_
  rintro e w1 ⟨rfl, b1⟩
  have hS1 := hS.below b1
  clear K hS
  go_wp2_with fail
  refine (W1 _).mono ?_
  rintro e w1' ⟨rfl, rfl⟩
  go_wp2_with fail
  refine (W2 _).mono ?_
  rintro e w1'' ⟨rfl, rfl⟩
  go_wp2
  go_loopw [5] (fun sv wr => ∃ (k : Nat) (t : ByteArray), k ≤ 599 + n ∧ sv = .string t ∧ t.data.toList = List.replicate k 32 ∧ wr = w1'') (fun sv _ => 599 + n - strLen sv)
  case atStart => exact ⟨0, _, Nat.zero_le _, rfl, rfl, rfl⟩
  case round =>
    obtain ⟨k, t, hk, rfl, hrep, rfl⟩ := hrel
    have hsz := rep_size hrep
    by_cases hlt : k < 599 + n
    · have i1 : (t.size : Int) < 599 + (n : Int) := by omega
      have hts : t.size ≤ 700 := by omega
      have HN := hide (rep_next hrep)
      have Hsz := hide hsz
      clear hrep hsz
      go_wp2
      go_roundw
      case rel => exact ⟨k + 1, _, by omega, rfl, unhide HN, by trivial⟩
      case measure =>
        simp only [strLen, ByteArray.size_append]
        have := unhide Hsz
        show 599 + n - (t.size + 1) < _
        omega
    · have i1 : ¬ (t.size : Int) < 599 + (n : Int) := by omega
      have hts : t.size ≤ 700 := by omega
      obtain rfl : k = 599 + n := by omega
      clear hsz
      have T := fun W h => tokens_any t W h (by omega)
      have he : (toks t.data.toList).2 = if 1 < n then 5 else 0 := by rw [hrep, toks_blanks]; split <;> split <;> first | rfl | omega
      rw [he] at T
      have HR := hide hrep
      clear hrep he
      by_cases h1 : 1 < n
      · have i2 : (1 : Int) < (n : Int) := by omega
        rw [if_pos h1] at T
        go_wp2_with fail
        refine (T _ hS1).mono ?_
        rintro e w3 ⟨v, rfl, _, b3⟩
        go_wp2
        go_ret
        exact ⟨rfl, b1.trans (b3.mono b1.size)⟩
      · have i2 : ¬ (1 : Int) < (n : Int) := by omega
        rw [if_neg h1] at T
        go_wp2_with fail
        refine (T _ hS1).mono ?_
        rintro e w3 ⟨v, rfl, _, b3⟩
        go_wp2
        go_ret
        exact ⟨rfl, b1.trans (b3.mono b1.size)⟩

set_option maxHeartbeats 4000000 in
set_option maxRecDepth 1000000 in
theorem bounds_1 (which n : Nat) (x y : Int) (hx : (which : Int) = x % 4) (hy : (n : Int) = y % 4) (hw : which = 1) (w : World) (hS : Signs w) :
    Calls Tryd.prog 5 #[.int .i64 x, .int .i64 y] w fun e w' => e = .returned (.bool true) ∧ Below w.heap.size w w' := by
  have K := known4_any w hS
  have W1 := within4_any y 4 (by decide) (by decide)
  have W2 := within4_any x 4 (by decide) (by decide)
  have hn4 : n < 4 := by omega
  rw [← hy] at W1
  rw [← hx, hw] at W2
  clear hx hy hw
  go_enter Tryd.func5, Tryd.ntmps5
  go_wp2_with fail
  refine K.mono ?_
  rintro e w1 ⟨rfl, b1⟩
  have hS1 := hS.below b1
  clear K hS
  go_wp2_with fail
  refine (W1 _).mono ?_
  rintro e w1' ⟨rfl, rfl⟩
  go_wp2_with fail
  refine (W2 _).mono ?_
  rintro e w1'' ⟨rfl, rfl⟩
  go_wp2
  go_loopw [5, 7] (fun sv iv wr => ∃ (k : Nat) (t : ByteArray), k ≤ 199 + n ∧ iv = .int .i64 k ∧ sv = .string t ∧ t.data.toList = List.replicate k 43 ∧ wr = w1'') (fun _ iv _ => 199 + n - (intOf iv).toNat)
  case atStart => exact ⟨0, _, Nat.zero_le _, rfl, rfl, rfl, rfl⟩
  case round =>
    obtain ⟨k, t, hk, rfl, rfl, hrep, rfl⟩ := hrel
    have hts : t.size ≤ 700 := by rw [rep_size hrep]; omega
    by_cases hlt : k < 199 + n
    · have i1 : (k : Int) < 199 + (n : Int) := by omega
      have HN := hide (rep_next hrep)
      clear hrep
      go_wp2
      go_roundw
      case rel => exact ⟨k + 1, _, by omega, by go_num, rfl, unhide HN, by trivial⟩
      case measure =>
        simp only [intOf]
        omega
    · have i1 : ¬ (k : Int) < 199 + (n : Int) := by omega
      obtain rfl : k = 199 + n := by omega
      have T := fun W h => tokens_any t W h (by omega)
      have he : (toks t.data.toList).2 = if 1 < n then 4 else 0 := by rw [hrep, toks_plus _ (by omega)]; split <;> split <;> first | rfl | omega
      rw [he] at T
      have HR := hide hrep
      clear hrep he
      by_cases h1 : 1 < n
      · have i2 : (1 : Int) < (n : Int) := by omega
        rw [if_pos h1] at T
        go_wp2_with fail
        refine (T _ hS1).mono ?_
        rintro e w3 ⟨v, rfl, _, b3⟩
        go_wp2
        go_ret
        exact ⟨rfl, b1.trans (b3.mono b1.size)⟩
      · have i2 : ¬ (1 : Int) < (n : Int) := by omega
        rw [if_neg h1] at T
        go_wp2_with fail
        refine (T _ hS1).mono ?_
        rintro e w3 ⟨v, rfl, _, b3⟩
        go_wp2
        go_ret
        exact ⟨rfl, b1.trans (b3.mono b1.size)⟩

set_option maxHeartbeats 4000000 in
set_option maxRecDepth 1000000 in
theorem bounds_2 (which n : Nat) (x y : Int) (hx : (which : Int) = x % 4) (hy : (n : Int) = y % 4) (hw : which = 2) (w : World) (hS : Signs w) :
    Calls Tryd.prog 5 #[.int .i64 x, .int .i64 y] w fun e w' => e = .returned (.bool true) ∧ Below w.heap.size w w' := by
  have K := known4_any w hS
  have W1 := within4_any y 4 (by decide) (by decide)
  have W2 := within4_any x 4 (by decide) (by decide)
  have hn4 : n < 4 := by omega
  rw [← hy] at W1
  rw [← hx, hw] at W2
  clear hx hy hw
  go_enter Tryd.func5, Tryd.ntmps5
  go_wp2_with fail
  refine K.mono ?_
  rintro e w1 ⟨rfl, b1⟩
  have hS1 := hS.below b1
  clear K hS
  go_wp2_with fail
  refine (W1 _).mono ?_
  rintro e w1' ⟨rfl, rfl⟩
  go_wp2_with fail
  refine (W2 _).mono ?_
  rintro e w1'' ⟨rfl, rfl⟩
  go_wp2
  go_loopw [5] (fun sv wr => ∃ (k : Nat) (t : ByteArray), k ≤ 11 + n ∧ sv = .string t ∧ t.data.toList = List.replicate k 113 ∧ wr = w1'') (fun sv _ => 11 + n - strLen sv)
  case atStart => exact ⟨0, _, Nat.zero_le _, rfl, rfl, rfl⟩
  case round =>
    obtain ⟨k, t, hk, rfl, hrep, rfl⟩ := hrel
    have hsz := rep_size hrep
    by_cases hlt : k < 11 + n
    · have i1 : (t.size : Int) < 11 + (n : Int) := by omega
      have hts : t.size ≤ 700 := by omega
      have HN := hide (rep_next hrep)
      have Hsz := hide hsz
      clear hrep hsz
      go_wp2
      go_roundw
      case rel => exact ⟨k + 1, _, by omega, rfl, unhide HN, by trivial⟩
      case measure =>
        simp only [strLen, ByteArray.size_append]
        have := unhide Hsz
        show 11 + n - (t.size + 1) < _
        omega
    · have i1 : ¬ (t.size : Int) < 11 + (n : Int) := by omega
      have hts : t.size ≤ 700 := by omega
      obtain rfl : k = 11 + n := by omega
      clear hsz
      have T := fun W h => tokens_any t W h (by omega)
      have he : (toks t.data.toList).2 = if 1 < n then 5 else 0 := by rw [hrep, toks_qs _ (by omega) (by omega)]; split <;> split <;> first | rfl | omega
      rw [he] at T
      have HR := hide hrep
      clear hrep he
      by_cases h1 : 1 < n
      · have i2 : (1 : Int) < (n : Int) := by omega
        rw [if_pos h1] at T
        go_wp2_with fail
        refine (T _ hS1).mono ?_
        rintro e w3 ⟨v, rfl, _, b3⟩
        go_wp2
        go_ret
        exact ⟨rfl, b1.trans (b3.mono b1.size)⟩
      · have i2 : ¬ (1 : Int) < (n : Int) := by omega
        rw [if_neg h1] at T
        go_wp2_with fail
        refine (T _ hS1).mono ?_
        rintro e w3 ⟨v, rfl, _, b3⟩
        go_wp2
        go_ret
        exact ⟨rfl, b1.trans (b3.mono b1.size)⟩

set_option maxHeartbeats 4000000 in
set_option maxRecDepth 1000000 in
theorem bounds_3 (which n : Nat) (x y : Int) (hx : (which : Int) = x % 4) (hy : (n : Int) = y % 4) (hw : which = 3) (w : World) (hS : Signs w) :
    Calls Tryd.prog 5 #[.int .i64 x, .int .i64 y] w fun e w' => e = .returned (.bool true) ∧ Below w.heap.size w w' := by
  have K := known4_any w hS
  have W1 := within4_any y 4 (by decide) (by decide)
  have W2 := within4_any x 4 (by decide) (by decide)
  have hn4 : n < 4 := by omega
  rw [← hy] at W1
  rw [← hx, hw] at W2
  clear hx hy hw
  go_enter Tryd.func5, Tryd.ntmps5
  go_wp2_with fail
  refine K.mono ?_
  rintro e w1 ⟨rfl, b1⟩
  have hS1 := hS.below b1
  clear K hS
  go_wp2_with fail
  refine (W1 _).mono ?_
  rintro e w1' ⟨rfl, rfl⟩
  go_wp2_with fail
  refine (W2 _).mono ?_
  rintro e w1'' ⟨rfl, rfl⟩
  go_wp2
  go_loopw [8, 9] (fun lv iv wr => ∃ k : Nat, k ≤ 29 + n ∧ iv = .int .i64 k ∧ wr.ownsRow w1''.heap.size 3 1 lv (List.replicate k (14 : Int)).length ((List.replicate k (14 : Int)).map (Value.int .i64)) ∧ Below w1''.heap.size w1'' wr) (fun _ iv _ => 29 + n - (intOf iv).toNat)
  case atStart => exact ⟨0, Nat.zero_le _, rfl, ⟨by simp, .inl ⟨rfl, rfl⟩⟩, Below.refl _ _⟩
  case round =>
    obtain ⟨k, hk, rfl, hown, hbw⟩ := hrel
    obtain ⟨i0, hi, hi0, hi1, hi2⟩ := info_parts infoInt
    have hsz := hbw.size
    by_cases hlt : k < 29 + n
    · have i1 : (k : Int) < 29 + (n : Int) := by omega
      have HT := hide (show List.replicate (k + 1) (14 : Int) = List.replicate k 14 ++ [14] from List.replicate_succ')
      have hLl : (List.replicate k (14 : Int)).length ≤ 40 := by rw [List.length_replicate]; omega
      generalize List.replicate k (14 : Int) = L at *
      go_wp2_with (at_builtin; refine wpList_append_own _ rfl _ _ 22 rfl w1''.heap.size 3 i0 (.int .i64 0) 1 8 Tryd.underlying22 hi hi0 hi1 hi2 rfl (by decide) _ _ _ rfl (hown.alloc _) ⟨wr.heap.size, 0, none⟩ 1 1 [.int .i64 14] rfl rfl ?c1 ?c2 ?c3 ?c4 ?c5 ?_)
      case c1 =>
        intro j u hj
        match j, hj with
        | 0, hj => simp at hj; subst hj; simp [Addr.add]
      case c2 => intro u hu; simp at hu; subst hu; rfl
      case c3 => unfold maxLen; omega
      case c4 => omega
      case c5 => simp; omega
      intro v' w5 hown' hgrow _
      have hb5 := (hbw.alloc (by omega) (.cells #[.int .i64 14] 3)).grown hgrow (by simp; omega) (fun g hg => by have := (hown.lt g hg).1; omega)
      go_wp2
      go_roundw
      case rel =>
        refine ⟨k + 1, by omega, by go_num, ?_, hb5⟩
        rw [unhide HT, List.map_append, List.length_append]
        exact hown'
      case measure =>
        simp only [intOf]
        omega
    · have i1 : ¬ (k : Int) < 29 + (n : Int) := by omega
      obtain rfl : k = 29 + n := by omega
      obtain ⟨L, hL⟩ : ∃ L, L = List.replicate (29 + n) (14 : Int) := ⟨_, rfl⟩
      rw [← hL] at hown
      have hLl : L.length ≤ 40 := by rw [hL, List.length_replicate]; omega
      obtain ⟨lo, lc, rfl, hlrow⟩ := intsAt_own hown
      have O := fun W h => lawOf_txt L lo lc W (by omega) h
      have htx : txt L = ofL (List.replicate (29 + n) 8364) := by rw [hL]; exact (txt_14 (29 + n) (by omega)).1
      rw [htx] at O
      clear hL htx
      have hok := (txt_14 (29 + n) (by omega)).2
      obtain ⟨t, ht⟩ : ∃ t : ByteArray, t = ⟨(quoteL (ofL (List.replicate (29 + n) 8364))).toArray⟩ := ⟨_, rfl⟩
      have hrep : t.data.toList = quoteL (ofL (List.replicate (29 + n) 8364)) := by rw [ht]
      have Q : ∀ (s : ByteArray) (W : World), s.data.toList = ofL (List.replicate (29 + n) 8364) → s.size ≤ 160 → Calls Tryd.prog 17 #[.string s] W fun e w' => e = .returned (.string t) ∧ w' = W := by
        intro s W h1 h2
        have := rquote_any s W (by omega)
        rw [h1, bquote_ofL _ hok, ← ht] at this
        exact this
      have hql : (quoteL (ofL (List.replicate (29 + n) 8364))).length ≤ 200 := by
        have h6 : ∀ l : List Int, (l.flatMap quoL).length ≤ 6 * l.length := by
          intro l
          induction l with
          | nil => simp
          | cons x r ih =>
            have := quoL_len x
            rw [List.flatMap_cons, List.length_append, List.length_cons]
            omega
        have := h6 (List.replicate (29 + n) 8364)
        rw [List.length_replicate] at this
        rw [quoteL, runes_ofL _ hok, List.length_cons, List.length_append, List.length_singleton]
        omega
      have hts : t.size ≤ 200 := by rw [Lib.size_eq, hrep]; exact hql
      have T := fun W h => tokens_any t W h (by omega)
      have he : (toks t.data.toList).2 = if 1 < n then 5 else 0 := by rw [hrep, toks_quote _ hok (by omega), List.length_replicate]; split <;> split <;> first | rfl | omega
      rw [he] at T
      have b02 := b1.trans (hbw.mono b1.size)
      have hS2 := hS1.below hbw
      clear hrep he ht hql hok hown
      by_cases h1 : 1 < n
      · have i2 : (1 : Int) < (n : Int) := by omega
        rw [if_pos h1] at T
        go_wp2_with fail
        refine (O _ hlrow).mono ?_
        rintro e w3 ⟨s, rfl, hs1, hs2, b3⟩
        have b03 := b02.trans (b3.mono b02.size)
        go_wp2_with fail
        refine (Q s _ hs1 hs2).mono ?_
        rintro e w4 ⟨rfl, rfl⟩
        go_wp2_with fail
        refine (T _ (hS2.below b3)).mono ?_
        rintro e w5 ⟨v, rfl, _, b5⟩
        go_wp2
        go_ret
        exact ⟨rfl, b03.trans (b5.mono b03.size)⟩
      · have i2 : ¬ (1 : Int) < (n : Int) := by omega
        rw [if_neg h1] at T
        go_wp2_with fail
        refine (O _ hlrow).mono ?_
        rintro e w3 ⟨s, rfl, hs1, hs2, b3⟩
        have b03 := b02.trans (b3.mono b02.size)
        go_wp2_with fail
        refine (Q s _ hs1 hs2).mono ?_
        rintro e w4 ⟨rfl, rfl⟩
        go_wp2_with fail
        refine (T _ (hS2.below b3)).mono ?_
        rintro e w5 ⟨v, rfl, _, b5⟩
        go_wp2
        go_ret
        exact ⟨rfl, b03.trans (b5.mono b03.size)⟩

theorem bounds_walk (x y : Int) (w : World) (hS : Signs w) :
    Calls Tryd.prog 5 #[.int .i64 x, .int .i64 y] w fun e w' => e = .returned (.bool true) ∧ Below w.heap.size w w' := by
  obtain ⟨m, hm⟩ : ∃ m : Nat, (m : Int) = x % 4 := ⟨(x % 4).toNat, by omega⟩
  obtain ⟨n, hn⟩ : ∃ n : Nat, (n : Int) = y % 4 := ⟨(y % 4).toNat, by omega⟩
  have h4 : m = 0 ∨ m = 1 ∨ m = 2 ∨ m = 3 := by omega
  rcases h4 with h | h | h | h
  · exact bounds_0 m n x y hm hn h w hS
  · exact bounds_1 m n x y hm hn h w hS
  · exact bounds_2 m n x y hm hn h w hS
  · exact bounds_3 m n x y hm hn h w hS
end Go.Proofs.YtfkbbenjmhngcaaDoor
