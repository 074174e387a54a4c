/-
 chancelref11: uid, of, leaf, need: what they return.
 chancelref11.own: its beginning; like, not, neg: what it returns.
-/
import Derived.Test.YtagnbpobcijakaaTyEG
namespace Go.Proofs.Ytagnbpobcijakaa
open Go.RowKit Go.Sort

theorem found_kS {s : SP} {n : ByteArray} {e : Ending} {w : World} (h : FoundK s n e w) : ∃ y : N3, e = .returned (.tuple #[.agg #[.string y.nm, .slice y.ao y.al y.ac, .slice y.bo y.bl y.bc], .bool (!noneB s.names n)]) := by
 rcases h with ⟨h1, h2⟩ | ⟨i, hi, x, h1, _, h4⟩
 ·exact ⟨zN3, by rw [noneB_true h1]; exact h2⟩
 ·exact ⟨x, by rw [place_is h1]; exact h4⟩
theorem found_aS {s : SP} {n : ByteArray} {e : Ending} {w : World} (h : FoundA s n e w) : ∃ y : N3, e = .returned (.tuple #[.agg #[.string y.nm, .slice y.ao y.al y.ac, .slice y.bo y.bl y.bc], .bool (!noneB s.acts n)]) := by
 rcases h with ⟨h1, h2⟩ | ⟨i, hi, x, h1, _, h4⟩
 ·exact ⟨zN3, by rw [noneB_true h1]; exact h2⟩
 ·exact ⟨x, by rw [place_is h1]; exact h4⟩
set_option maxHeartbeats 2000000 in
set_option maxRecDepth 1000000 in
theorem ruid_any (s : SP) (v : Value) (t i : ByteArray) (w : World) (hsm : SmS s) (hs : IsS w v s) : Calls Try.prog 38 #[v, .agg #[.string t, .string i]] w fun e w' => e = .returned (.bool (namedB s t i)) ∧ Below w.heap.size w w' := by
 obtain ⟨ko, kc, ao, acp, rfl, _, _⟩ := hs.ex
 obtain ⟨bX, zX, k1, k2⟩ := alloc2 w (.cells #[.slice ko s.ks.length kc, .slice ao s.ac.length acp] 33) (.cells #[.string t, .string i] 36)
 have hs1 := hs.below bX
 go_enter Try.func38, Try.ntmps38
 go_upto_region 1 with fail
 generalize (w.alloc _).alloc _ = w1 at *
 obtain ⟨cs0, cs1⟩ := bl2_ k1
 obtain ⟨cu0, cu1⟩ := bl2_ k2
 by_cases h1 : t = ⟨#[65, 99, 116, 105, 111, 110]⟩
 ·subst h1
  have C := (rAction_any s _ i w1 hsm.ac hs1).mono (fun e w9 h => And.intro (found_aS h.1) h.2)
  have HE := hide (show namedB s ⟨#[65, 99, 116, 105, 111, 110]⟩ i = !noneB s.acts i from if_pos (by decide))
  generalize (!noneB s.acts i) = z at *
  clear hs hs1 k1 k2 zX
  go_wp2_with fail
  refine C.mono ?_
  clear C cs0 cs1 cu0 cu1
  rintro e9 w5 ⟨⟨y, rfl⟩, b5⟩
  have B5 := (bX.trans (b5.mono bX.size)).alloc ((bX.trans (b5.mono bX.size)).size) (.cells #[.string y.nm, .slice y.ao y.al y.ac, .slice y.bo y.bl y.bc] 83)
  go_wp2
  go_ret
  exact ⟨by rw [unhide HE]; rfl, B5⟩
 ·have g1 : (t.toList == [65, 99, 116, 105, 111, 110]) = false := lit_ne (by decide) h1
  have C := (rKind_any s _ t w1 hsm.ks hs1).mono (fun e w9 h => And.intro (found_kS h.1) h.2)
  have HE := hide (show namedB s t i = !noneB s.names t from if_neg h1)
  generalize (!noneB s.names t) = z at *
  clear hs hs1 k1 k2 zX h1
  go_wp2_with fail
  refine C.mono ?_
  clear C cs0 cs1 cu0 cu1
  rintro e9 w5 ⟨⟨y, rfl⟩, b5⟩
  have B5 := (bX.trans (b5.mono bX.size)).alloc ((bX.trans (b5.mono bX.size)).size) (.cells #[.string y.nm, .slice y.ao y.al y.ac, .slice y.bo y.bl y.bc] 80)
  go_wp2
  go_ret
  exact ⟨by rw [unhide HE]; rfl, B5⟩
set_option maxHeartbeats 2000000 in
set_option maxRecDepth 1000000 in
theorem r11of_any (k : Int) (w : World) : Calls Try.prog 56 #[.int .i64 k] w fun e w' => e = .returned (.agg #[.int .i64 k, .int .i64 0, .string ⟨#[]⟩]) ∧ Below w.heap.size w w' := by
 have b1 := blw1 w (.cells #[.int .i64 0, .int .i64 0, .string ⟨#[]⟩] 54)
 have h1 := alloc_heap w (.cells #[.int .i64 0, .int .i64 0, .string ⟨#[]⟩] 54)
 go_enter Try.func56, Try.ntmps56
 go_upto_region 1 with fail
 generalize w.alloc _ = w1 at *
 obtain ⟨z0, z1, z2⟩ := bl3_ h1
 have zf : ∀ o, w1.frozen? ⟨w.heap.size, o, none⟩ = false := fun o => Lib.frozen_of_heap h1 o
 have HQ := hide (set3_all (.int .i64 k) (.int .i64 0) (.string ⟨#[]⟩) h1 b1 (Nat.le_refl _))
 go_wp2
 obtain ⟨q0, q1, q2, qb⟩ := unhide HQ
 exact bodyPost_ret (v := .agg #[.int .i64 k, .int .i64 0, .string ⟨#[]⟩]) (by simp [results, Try.results56, go_sem, q0, q1, q2]) rfl ⟨rfl, qb⟩
/-- The type of what has no kids, as the reference tells it: any text that is neither principal nor resource is the action. -/
def rvarT (p r n : ByteArray) : TR := if n = sPrin then (⟨4, 0, p⟩, 0) else if n = sRes then (⟨4, 0, r⟩, 0) else (⟨4, 0, sAction⟩, 0)
def rleafT (s : SP) (p r : ByteArray) (k : Int) (sx t i : ByteArray) : TR :=
 if k = 1 then (⟨1, 0, ⟨#[]⟩⟩, 0) else if k = 2 then (⟨2, 0, ⟨#[]⟩⟩, 0) else if k = 3 then (⟨3, 0, ⟨#[]⟩⟩, 0) else if k = 4 then entT t (namedB s t i) else rvarT p r sx
set_option maxHeartbeats 2000000 in
set_option maxRecDepth 1000000 in
theorem rleaf_any (s : SP) (v : Value) (p ac r : ByteArray) (k : Int) (eb : Bool) (en : Int) (es et ei : ByteArray) (elo : Option Addr) (ell elc : Nat) (w : World) (hsm : SmS s) (hs : IsS w v s) : Calls Try.prog 42 #[v, .agg #[.string p, .string ac, .string r], .agg #[.int .i64 k, .bool eb, .int .i64 en, .string es, .string et, .string ei, .slice elo ell elc]] w fun e w' => e = .returned (rleafT s p r k es et ei).ret ∧ Below w.heap.size w w' := by
 obtain ⟨ko, kc, ao, acp, rfl, _, _⟩ := hs.ex
 obtain ⟨bX, zX, k1, k2, k3, k4⟩ := alloc4 w (.cells #[.slice ko s.ks.length kc, .slice ao s.ac.length acp] 33) (.cells #[.string p, .string ac, .string r] 42) (.cells #[.int .i64 k, .bool eb, .int .i64 en, .string es, .string et, .string ei, .slice elo ell elc] 39) (.cells #[.int .i64 0, .int .i64 0, .string ⟨#[]⟩] 54)
 have hs1 := hs.below bX
 go_enter Try.func42, Try.ntmps42
 go_upto_region 1 with fail
 generalize (((w.alloc _).alloc _).alloc _).alloc _ = w1 at *
 obtain ⟨cs0, cs1⟩ := bl2_ k1
 obtain ⟨cn0, cn1, cn2⟩ := bl3_ k2
 have ce0 : w1.cell? ⟨w.heap.size + 2, 0, none⟩ = some (.int .i64 k) := lc_ k3 rfl
 have ce3 : w1.cell? ⟨w.heap.size + 2, 3, none⟩ = some (.string es) := lc_ k3 rfl
 have ce4 : w1.cell? ⟨w.heap.size + 2, 4, none⟩ = some (.string et) := lc_ k3 rfl
 have ce5 : w1.cell? ⟨w.heap.size + 2, 5, none⟩ = some (.string ei) := lc_ k3 rfl
 by_cases ho : k = 1
 ·subst ho
  have C := r11of_any 1 w1
  have HE := hide (show rleafT s p r 1 es et ei = (⟨1, 0, ⟨#[]⟩⟩, 0) from by unfold rleafT; rw [if_pos rfl])
  go_wp2_with fail
  refine C.mono ?_
  clear C
  rintro e9 w5 ⟨rfl, b5⟩
  have hV5 := kept_of_below b5 k4
  have bb5 := bX.trans (b5.mono bX.size)
  obtain ⟨z0, z1, z2⟩ := bl3_ hV5
  have zf : ∀ o, w5.frozen? ⟨w.heap.size + 3, o, none⟩ = false := fun o => Lib.frozen_of_heap hV5 o
  have HQ := hide (set3_all (.int .i64 1) (.int .i64 0) (.string ⟨#[]⟩) hV5 bb5 (Nat.le_add_right _ 3))
  go_wp2
  obtain ⟨q0, q1, q2, qb⟩ := unhide HQ
  exact bodyPost_ret (v := .tuple #[.agg #[.int .i64 1, .int .i64 0, .string ⟨#[]⟩], .int .i64 0]) (by simp [results, Try.results42, go_sem, q0, q1, q2]) rfl ⟨by rw [unhide HE]; rfl, qb⟩
 have g1 : (k == 1) = false := by simpa using ho
 have m1 := ho
 clear ho
 by_cases ho : k = 2
 ·subst ho
  clear g1
  have C := r11of_any 2 w1
  have HE := hide (show rleafT s p r 2 es et ei = (⟨2, 0, ⟨#[]⟩⟩, 0) from by unfold rleafT; rw [if_neg (by decide), if_pos rfl])
  go_wp2_with fail
  refine C.mono ?_
  clear C
  rintro e9 w5 ⟨rfl, b5⟩
  have hV5 := kept_of_below b5 k4
  have bb5 := bX.trans (b5.mono bX.size)
  obtain ⟨z0, z1, z2⟩ := bl3_ hV5
  have zf : ∀ o, w5.frozen? ⟨w.heap.size + 3, o, none⟩ = false := fun o => Lib.frozen_of_heap hV5 o
  have HQ := hide (set3_all (.int .i64 2) (.int .i64 0) (.string ⟨#[]⟩) hV5 bb5 (Nat.le_add_right _ 3))
  go_wp2
  obtain ⟨q0, q1, q2, qb⟩ := unhide HQ
  exact bodyPost_ret (v := .tuple #[.agg #[.int .i64 2, .int .i64 0, .string ⟨#[]⟩], .int .i64 0]) (by simp [results, Try.results42, go_sem, q0, q1, q2]) rfl ⟨by rw [unhide HE]; rfl, qb⟩
 have g2 : (k == 2) = false := by simpa using ho
 have m2 := ho
 clear ho
 by_cases ho : k = 3
 ·subst ho
  clear g1 g2
  have C := r11of_any 3 w1
  have HE := hide (show rleafT s p r 3 es et ei = (⟨3, 0, ⟨#[]⟩⟩, 0) from by unfold rleafT; rw [if_neg (by decide), if_neg (by decide), if_pos rfl])
  go_wp2_with fail
  refine C.mono ?_
  clear C
  rintro e9 w5 ⟨rfl, b5⟩
  have hV5 := kept_of_below b5 k4
  have bb5 := bX.trans (b5.mono bX.size)
  obtain ⟨z0, z1, z2⟩ := bl3_ hV5
  have zf : ∀ o, w5.frozen? ⟨w.heap.size + 3, o, none⟩ = false := fun o => Lib.frozen_of_heap hV5 o
  have HQ := hide (set3_all (.int .i64 3) (.int .i64 0) (.string ⟨#[]⟩) hV5 bb5 (Nat.le_add_right _ 3))
  go_wp2
  obtain ⟨q0, q1, q2, qb⟩ := unhide HQ
  exact bodyPost_ret (v := .tuple #[.agg #[.int .i64 3, .int .i64 0, .string ⟨#[]⟩], .int .i64 0]) (by simp [results, Try.results42, go_sem, q0, q1, q2]) rfl ⟨by rw [unhide HE]; rfl, qb⟩
 have g3 : (k == 3) = false := by simpa using ho
 have m3 := ho
 clear ho
 by_cases ho : k = 4
 ·subst ho
  clear g1 g2 g3 m1 m2 m3
  have C := ruid_any s _ et ei w1 hsm hs1
  have HE := hide (show rleafT s p r 4 es et ei = entT et (namedB s et ei) from rfl)
  generalize namedB s et ei = z at *
  go_wp2_with fail
  refine C.mono ?_
  clear C
  rintro e9 w5 ⟨rfl, b5⟩
  have hV5 := kept_of_below b5 k4
  have hE5 := kept_of_below b5 k3
  have bb5 := bX.trans (b5.mono bX.size)
  have ce4 : w5.cell? ⟨w.heap.size + 2, 4, none⟩ = some (.string et) := lc_ hE5 rfl
  cases z
  ·have HE := hide (show rleafT s p r 4 es et ei = (⟨0, 0, ⟨#[]⟩⟩, 15) from unhide HE)
   obtain ⟨z0, z1, z2⟩ := bl3_ hV5
   have zf : ∀ o, w5.frozen? ⟨w.heap.size + 3, o, none⟩ = false := fun o => Lib.frozen_of_heap hV5 o
   have HQ := hide (set3_all (.int .i64 0) (.int .i64 0) (.string ⟨#[]⟩) hV5 bb5 (Nat.le_add_right _ 3))
   go_wp2
   obtain ⟨q0, q1, q2, qb⟩ := unhide HQ
   exact bodyPost_ret (v := .tuple #[.agg #[.int .i64 0, .int .i64 0, .string ⟨#[]⟩], .int .i64 15]) (by simp [results, Try.results42, go_sem, q0, q1, q2]) rfl ⟨by rw [unhide HE]; rfl, qb⟩
  ·have HE := hide (show rleafT s p r 4 es et ei = (⟨4, 0, et⟩, 0) from unhide HE)
   obtain ⟨z0, z1, z2⟩ := bl3_ hV5
   have zf : ∀ o, w5.frozen? ⟨w.heap.size + 3, o, none⟩ = false := fun o => Lib.frozen_of_heap hV5 o
   have HQ := hide (set3_all (.int .i64 4) (.int .i64 0) (.string et) hV5 bb5 (Nat.le_add_right _ 3))
   go_wp2
   obtain ⟨q0, q1, q2, qb⟩ := unhide HQ
   exact bodyPost_ret (v := .tuple #[.agg #[.int .i64 4, .int .i64 0, .string et], .int .i64 0]) (by simp [results, Try.results42, go_sem, q0, q1, q2]) rfl ⟨by rw [unhide HE]; rfl, qb⟩
 have g4 : (k == 4) = false := by simpa using ho
 have m4 := ho
 clear ho hs hs1
 by_cases h1 : es = ⟨#[112, 114, 105, 110, 99, 105, 112, 97, 108]⟩
 ·subst h1
  have HE := hide (show rleafT s p r k ⟨#[112, 114, 105, 110, 99, 105, 112, 97, 108]⟩ et ei = (⟨4, 0, p⟩, 0) from by unfold rleafT rvarT; rw [if_neg m1, if_neg m2, if_neg m3, if_neg m4]; exact if_pos (by decide))
  obtain ⟨z0, z1, z2⟩ := bl3_ k4
  have zf : ∀ o, w1.frozen? ⟨w.heap.size + 3, o, none⟩ = false := fun o => Lib.frozen_of_heap k4 o
  have HQ := hide (set3_all (.int .i64 4) (.int .i64 0) (.string p) k4 bX (Nat.le_add_right _ 3))
  go_wp2
  obtain ⟨q0, q1, q2, qb⟩ := unhide HQ
  exact bodyPost_ret (v := .tuple #[.agg #[.int .i64 4, .int .i64 0, .string p], .int .i64 0]) (by simp [results, Try.results42, go_sem, q0, q1, q2]) rfl ⟨by rw [unhide HE]; rfl, qb⟩
 have q1 : (es.toList == [112, 114, 105, 110, 99, 105, 112, 97, 108]) = false := lit_ne (by decide) h1
 have n1 : es ≠ sPrin := h1
 by_cases h2 : es = ⟨#[114, 101, 115, 111, 117, 114, 99, 101]⟩
 ·subst h2
  clear q1 h1
  have HE := hide (show rleafT s p r k ⟨#[114, 101, 115, 111, 117, 114, 99, 101]⟩ et ei = (⟨4, 0, r⟩, 0) from by unfold rleafT rvarT; rw [if_neg m1, if_neg m2, if_neg m3, if_neg m4]; exact (if_neg n1).trans (if_pos (by decide)))
  obtain ⟨z0, z1, z2⟩ := bl3_ k4
  have zf : ∀ o, w1.frozen? ⟨w.heap.size + 3, o, none⟩ = false := fun o => Lib.frozen_of_heap k4 o
  have HQ := hide (set3_all (.int .i64 4) (.int .i64 0) (.string r) k4 bX (Nat.le_add_right _ 3))
  go_wp2
  obtain ⟨q0, q1, q2, qb⟩ := unhide HQ
  exact bodyPost_ret (v := .tuple #[.agg #[.int .i64 4, .int .i64 0, .string r], .int .i64 0]) (by simp [results, Try.results42, go_sem, q0, q1, q2]) rfl ⟨by rw [unhide HE]; rfl, qb⟩
 have q2 : (es.toList == [114, 101, 115, 111, 117, 114, 99, 101]) = false := lit_ne (by decide) h2
 have n2 : es ≠ sRes := h2
 clear h1 h2
 have HE := hide (show rleafT s p r k es et ei = (⟨4, 0, ⟨#[65, 99, 116, 105, 111, 110]⟩⟩, 0) from by unfold rleafT rvarT; rw [if_neg m1, if_neg m2, if_neg m3, if_neg m4]; exact (if_neg n1).trans (if_neg n2))
 obtain ⟨z0, z1, z2⟩ := bl3_ k4
 have zf : ∀ o, w1.frozen? ⟨w.heap.size + 3, o, none⟩ = false := fun o => Lib.frozen_of_heap k4 o
 have HQ := hide (set3_all (.int .i64 4) (.int .i64 0) (.string ⟨#[65, 99, 116, 105, 111, 110]⟩) k4 bX (Nat.le_add_right _ 3))
 go_wp2
 obtain ⟨q0, q1, q2, qb⟩ := unhide HQ
 exact bodyPost_ret (v := .tuple #[.agg #[.int .i64 4, .int .i64 0, .string ⟨#[65, 99, 116, 105, 111, 110]⟩], .int .i64 0]) (by simp [results, Try.results42, go_sem, q0, q1, q2]) rfl ⟨by rw [unhide HE]; rfl, qb⟩
/-- All are of a kind: then of this one. -/
def needT (l : List T3) (k to_ : Int) : TR := if l.all (fun t => decide (t.k = k)) then (⟨to_, 0, ⟨#[]⟩⟩, 0) else (zT, 16)
theorem needT_drop (l : List T3) (k to_ : Int) (i : Nat) (h : i < l.length) : needT (l.drop i) k to_ = if l[i].k = k then needT (l.drop (i + 1)) k to_ else (zT, 16) := by
 rw [List.drop_eq_getElem_cons h]
 unfold needT
 rw [List.all_cons]
 by_cases h1 : l[i].k = k
 ·rw [if_pos h1, decide_eq_true h1, Bool.true_and]
 ·rw [if_neg h1, decide_eq_false h1, Bool.false_and]
  rfl
set_option maxHeartbeats 2000000 in
set_option maxRecDepth 1000000 in
theorem rneed_any (l : List T3) (lo : Option Addr) (cap Ln : Nat) (k to_ : Int) (w : World) (hL : Ln = l.length) (hl : l.length ≤ 281474976710656) (hr : RowT3 w lo l) : Calls Try.prog 58 #[.slice lo Ln cap, .int .i64 k, .int .i64 to_] w fun e w' => e = .returned (needT l k to_).ret ∧ Below w.heap.size w w' := by
 have b1 := blw1 w (.cells #[.int .i64 0, .int .i64 0, .string ⟨#[]⟩] 54)
 have h1 := alloc_heap w (.cells #[.int .i64 0, .int .i64 0, .string ⟨#[]⟩] 54)
 have HL := hide hL
 have HR := hide hr
 have hLb : Ln ≤ 281474976710656 := by rw [hL]; exact hl
 obtain ⟨X, hX⟩ : ∃ X, X = needT l k to_ := ⟨_, rfl⟩
 rw [← hX]
 have HX := hide (show X = needT (l.drop 0) k to_ from hX)
 clear hL hl hr hX
 go_enter Try.func58, Try.ntmps58
 go_upto_region 1 with fail
 generalize w.alloc _ = w1 at *
 go_wp2_with fail
 go_loopw [8] (fun iv wr => ∃ i : Nat, iv = .int .i64 i ∧ i ≤ Ln ∧ Below w1.heap.size w1 wr ∧ X = needT (l.drop i) k to_) (fun iv _ => Ln - (intOf iv).toNat)
 case atStart => exact ⟨0, by go_num, Nat.zero_le _, Below.refl _ _, unhide HX⟩
 case round =>
  obtain ⟨i, rfl, hil, hbw, hty⟩ := hrel
  have Hty := hide hty
  clear hty
  have b0w := b1.trans (hbw.mono b1.size)
  have hqw := kept_of_below hbw h1
  by_cases hlt : i < Ln
  ·have i0 : (0 : Int) ≤ (i : Int) := by omega
   have i1 : (i : Int) < (Ln : Int) := by omega
   have hlt' : i < l.length := by rw [← unhide HL]; exact hlt
   obtain ⟨g, off, rfl, hg, ⟨c0, c1, c2⟩⟩ := (unhide HR).get b0w hlt'
   have HD := hide ((unhide Hty).trans (needT_drop l k to_ i hlt'))
   obtain ⟨t, ht⟩ : ∃ t, t = l[i] := ⟨_, rfl⟩
   rw [← ht] at c0 HD
   clear ht hlt' Hty c1 c2
   by_cases hk : t.k = k
   ·have HD2 := hide ((unhide HD).trans (if_pos hk))
    have gk : (t.k == k) = true := by simpa using hk
    have gk2 : (t.k != k) = false := by simp [hk]
    clear HD hk
    go_wp2
    go_roundw
    case rel => exact ⟨i + 1, by go_num, by omega, hbw, unhide HD2⟩
    case measure =>
     simp only [intOf]
     omega
   ·have HE := hide (show X = (⟨0, 0, ⟨#[]⟩⟩, 16) from (unhide HD).trans (if_neg hk))
    have gk : (t.k == k) = false := by simpa using hk
    have gk2 : (t.k != k) = true := by simpa using hk
    clear HD
    obtain ⟨z0, z1, z2⟩ := bl3_ hqw
    have zf : ∀ o, wr.frozen? ⟨w.heap.size, o, none⟩ = false := fun o => Lib.frozen_of_heap hqw o
    have HQ := hide (set3_all (.int .i64 0) (.int .i64 0) (.string ⟨#[]⟩) hqw b0w (Nat.le_refl _))
    go_wp2
    obtain ⟨q0, q1, q2, qb⟩ := unhide HQ
    exact bodyPost_ret (v := .tuple #[.agg #[.int .i64 0, .int .i64 0, .string ⟨#[]⟩], .int .i64 16]) (by simp [results, Try.results58, go_sem, q0, q1, q2]) rfl ⟨by rw [unhide HE]; rfl, qb⟩
  ·have i1 : ¬ (i : Int) < (Ln : Int) := by omega
   have HE := hide (show X = (⟨to_, 0, ⟨#[]⟩⟩, 0) from by
    rw [unhide Hty, List.drop_eq_nil_of_le (by have := unhide HL; omega)]
    rfl)
   have C := r11of_any to_ wr
   clear Hty
   go_wp2_with fail
   refine C.mono ?_
   clear C
   rintro e9 w5 ⟨rfl, b5⟩
   have hV5 := kept_of_below b5 hqw
   have bb5 := b0w.trans (b5.mono b0w.size)
   obtain ⟨z0, z1, z2⟩ := bl3_ hV5
   have zf : ∀ o, w5.frozen? ⟨w.heap.size, o, none⟩ = false := fun o => Lib.frozen_of_heap hV5 o
   have HQ := hide (set3_all (.int .i64 to_) (.int .i64 0) (.string ⟨#[]⟩) hV5 bb5 (Nat.le_refl _))
   go_wp2
   obtain ⟨q0, q1, q2, qb⟩ := unhide HQ
   exact bodyPost_ret (v := .tuple #[.agg #[.int .i64 to_, .int .i64 0, .string ⟨#[]⟩], .int .i64 0]) (by simp [results, Try.results58, go_sem, q0, q1, q2]) rfl ⟨by rw [unhide HE]; rfl, qb⟩
end Go.Proofs.Ytagnbpobcijakaa

namespace Go.Proofs.Ytagnbpobcijakaa
open Go.RowKit Go.Sort

theorem need_one (t : T3) (k to_ : Int) : needT [t] k to_ = whereT (decide (t.k = k)) to_ := by
 unfold needT whereT
 simp only [List.all_cons, List.all_nil, Bool.and_true]
theorem need_two (t u : T3) (k to_ : Int) : needT [t, u] k to_ = whereT (decide (t.k = k) && decide (u.k = k)) to_ := by
 unfold needT whereT
 simp only [List.all_cons, List.all_nil, Bool.and_true]
set_option maxHeartbeats 8000000 in
set_option maxRecDepth 1000000 in
theorem rown_10 (s : SP) (v : Value) (p r : ByteArray) (eb : Bool) (en : Int) (es et ei : ByteArray) (elo : Option Addr) (ell elc : Nat) (ak aq : Int) (an : ByteArray) (lo : Option Addr) (cap : Nat) (w : World) (_hsm : SmS s) (hs : IsST w v s) (hr : RowT3 w lo [⟨ak, aq, an⟩]) : Calls Try.prog 43 #[v, .agg #[.int .i64 10, .bool eb, .int .i64 en, .string es, .string et, .string ei, .slice elo ell elc], .slice lo 1 cap] w fun e w' => e = .returned (nodeT s p r 10 es et ei [⟨ak, aq, an⟩]).ret ∧ Below w.heap.size w w' := by
 obtain ⟨ko, kc, ao, acp, rfl, _, _⟩ := hs.ex2
 obtain ⟨bX, zX, k1, k2, k3⟩ := alloc3 w (.cells #[.slice ko s.ks.length kc, .slice ao s.ac.length acp] 33) (.cells #[.int .i64 10, .bool eb, .int .i64 en, .string es, .string et, .string ei, .slice elo ell elc] 39) (.cells #[.int .i64 0, .int .i64 0, .string ⟨#[]⟩] 54)
 have HS := hide hs
 have HR := hide hr
 obtain ⟨g, off, rfl, hg, hat0⟩ := hr.get (Below.refl _ w) (show 0 < ([⟨ak, aq, an⟩] : List T3).length by simp)
 have hat0 : AtT3 w g off ⟨ak, aq, an⟩ := by simpa using hat0
 obtain ⟨a0, a1, a2⟩ := hat0
 simp only at a0 a1 a2
 clear hs hr
 go_enter Try.func43, Try.ntmps43
 go_upto_region 1 with fail
 generalize ((w.alloc _).alloc _).alloc _ = w1 at *
 clear zX
 have hw1 : w.heap.size ≤ w1.heap.size := bX.size
 have b2 := blw1 w1 (.cells #[.int .i64 0, .int .i64 0, .string ⟨#[]⟩] 54)
 have h2 := alloc_heap w1 (.cells #[.int .i64 0, .int .i64 0, .string ⟨#[]⟩] 54)
 have k4 := h2
 have B2 := b2
 obtain ⟨n0, n1, n2⟩ := bl3_ h2
 have nf : ∀ o, (w1.alloc (.cells #[.int .i64 0, .int .i64 0, .string ⟨#[]⟩] 54)).frozen? ⟨w1.heap.size, o, none⟩ = false := fun o => Lib.frozen_of_heap h2 o
 go_upto_region 2 with fail
 clear n0 n1 n2 nf b2 h2
 generalize w1.alloc _ = w2 at *
 have bX := bX.trans (B2.mono bX.size)
 have k1 := kept_of_below B2 k1
 have k2 := kept_of_below B2 k2
 have k3 := kept_of_below B2 k3
 have hs2 := (unhide HS).below bX
 have hr2 := (unhide HR).below bX
 clear B2
 have ce0 : w2.cell? ⟨w.heap.size + 1, 0, none⟩ = some (.int .i64 10) := lc_ k2 rfl
 have ce3 : w2.cell? ⟨w.heap.size + 1, 3, none⟩ = some (.string es) := lc_ k2 rfl
 have a0 := (bX.cell (p := ⟨g, off, none⟩) hg).trans a0
 have a1 := (bX.cell (p := ⟨g, off + 1, none⟩) hg).trans a1
 have a2 := (bX.cell (p := ⟨g, off + 2, none⟩) hg).trans a2
 have C := rneed_any [⟨ak, aq, an⟩] _ cap 1 3 1 w2 rfl (by simp) hr2
 have HE : nodeT s p r 10 es et ei [⟨ak, aq, an⟩] = needT [⟨ak, aq, an⟩] 3 1 := by
  rw [need_one]
  rfl
 obtain ⟨x, hx⟩ : ∃ x : TR, x = needT [⟨ak, aq, an⟩] 3 1 := ⟨_, rfl⟩
 rw [← hx] at C HE
 obtain ⟨⟨xk, xo, xn⟩, xe⟩ := x
 have HE := hide HE
 clear hx hs2 hr2
 unfold TR.ret at C
 simp only at C
 go_wp2_with fail
 refine C.mono ?_
 clear C
 rintro e9 w5 ⟨rfl, b5⟩
 have hV5 := kept_of_below b5 k3
 have bb5 := bX.trans (b5.mono bX.size)
 obtain ⟨z0, z1, z2⟩ := bl3_ hV5
 have zf : ∀ o, w5.frozen? ⟨w.heap.size + 2, o, none⟩ = false := fun o => Lib.frozen_of_heap hV5 o
 have HQ := hide (set3_all (.int .i64 xk) (.int .i64 xo) (.string xn) hV5 bb5 (Nat.le_add_right _ 2))
 go_wp2
 obtain ⟨q0, q1, q2, qb⟩ := unhide HQ
 exact bodyPost_ret (v := .tuple #[.agg #[.int .i64 xk, .int .i64 xo, .string xn], .int .i64 xe]) (by simp [results, Try.results43, go_sem, q0, q1, q2]) rfl ⟨by rw [unhide HE]; rfl, qb⟩
set_option maxHeartbeats 8000000 in
set_option maxRecDepth 1000000 in
theorem rown_11 (s : SP) (v : Value) (p r : ByteArray) (eb : Bool) (en : Int) (es et ei : ByteArray) (elo : Option Addr) (ell elc : Nat) (ak aq : Int) (an : ByteArray) (lo : Option Addr) (cap : Nat) (w : World) (_hsm : SmS s) (hs : IsST w v s) (hr : RowT3 w lo [⟨ak, aq, an⟩]) : Calls Try.prog 43 #[v, .agg #[.int .i64 11, .bool eb, .int .i64 en, .string es, .string et, .string ei, .slice elo ell elc], .slice lo 1 cap] w fun e w' => e = .returned (nodeT s p r 11 es et ei [⟨ak, aq, an⟩]).ret ∧ Below w.heap.size w w' := by
 obtain ⟨ko, kc, ao, acp, rfl, _, _⟩ := hs.ex2
 obtain ⟨bX, zX, k1, k2, k3⟩ := alloc3 w (.cells #[.slice ko s.ks.length kc, .slice ao s.ac.length acp] 33) (.cells #[.int .i64 11, .bool eb, .int .i64 en, .string es, .string et, .string ei, .slice elo ell elc] 39) (.cells #[.int .i64 0, .int .i64 0, .string ⟨#[]⟩] 54)
 have HS := hide hs
 have HR := hide hr
 obtain ⟨g, off, rfl, hg, hat0⟩ := hr.get (Below.refl _ w) (show 0 < ([⟨ak, aq, an⟩] : List T3).length by simp)
 have hat0 : AtT3 w g off ⟨ak, aq, an⟩ := by simpa using hat0
 obtain ⟨a0, a1, a2⟩ := hat0
 simp only at a0 a1 a2
 clear hs hr
 go_enter Try.func43, Try.ntmps43
 go_upto_region 1 with fail
 generalize ((w.alloc _).alloc _).alloc _ = w1 at *
 clear zX
 have hw1 : w.heap.size ≤ w1.heap.size := bX.size
 have b2 := blw1 w1 (.cells #[.int .i64 0, .int .i64 0, .string ⟨#[]⟩] 54)
 have h2 := alloc_heap w1 (.cells #[.int .i64 0, .int .i64 0, .string ⟨#[]⟩] 54)
 have k4 := h2
 have B2 := b2
 obtain ⟨n0, n1, n2⟩ := bl3_ h2
 have nf : ∀ o, (w1.alloc (.cells #[.int .i64 0, .int .i64 0, .string ⟨#[]⟩] 54)).frozen? ⟨w1.heap.size, o, none⟩ = false := fun o => Lib.frozen_of_heap h2 o
 go_upto_region 2 with fail
 clear n0 n1 n2 nf b2 h2
 generalize w1.alloc _ = w2 at *
 have bX := bX.trans (B2.mono bX.size)
 have k1 := kept_of_below B2 k1
 have k2 := kept_of_below B2 k2
 have k3 := kept_of_below B2 k3
 have hs2 := (unhide HS).below bX
 have hr2 := (unhide HR).below bX
 clear B2
 have ce0 : w2.cell? ⟨w.heap.size + 1, 0, none⟩ = some (.int .i64 11) := lc_ k2 rfl
 have ce3 : w2.cell? ⟨w.heap.size + 1, 3, none⟩ = some (.string es) := lc_ k2 rfl
 have a0 := (bX.cell (p := ⟨g, off, none⟩) hg).trans a0
 have a1 := (bX.cell (p := ⟨g, off + 1, none⟩) hg).trans a1
 have a2 := (bX.cell (p := ⟨g, off + 2, none⟩) hg).trans a2
 have C := rneed_any [⟨ak, aq, an⟩] _ cap 1 1 1 w2 rfl (by simp) hr2
 have HE : nodeT s p r 11 es et ei [⟨ak, aq, an⟩] = needT [⟨ak, aq, an⟩] 1 1 := by
  rw [need_one]
  rfl
 obtain ⟨x, hx⟩ : ∃ x : TR, x = needT [⟨ak, aq, an⟩] 1 1 := ⟨_, rfl⟩
 rw [← hx] at C HE
 obtain ⟨⟨xk, xo, xn⟩, xe⟩ := x
 have HE := hide HE
 clear hx hs2 hr2
 unfold TR.ret at C
 simp only at C
 go_wp2_with fail
 refine C.mono ?_
 clear C
 rintro e9 w5 ⟨rfl, b5⟩
 have hV5 := kept_of_below b5 k3
 have bb5 := bX.trans (b5.mono bX.size)
 obtain ⟨z0, z1, z2⟩ := bl3_ hV5
 have zf : ∀ o, w5.frozen? ⟨w.heap.size + 2, o, none⟩ = false := fun o => Lib.frozen_of_heap hV5 o
 have HQ := hide (set3_all (.int .i64 xk) (.int .i64 xo) (.string xn) hV5 bb5 (Nat.le_add_right _ 2))
 go_wp2
 obtain ⟨q0, q1, q2, qb⟩ := unhide HQ
 exact bodyPost_ret (v := .tuple #[.agg #[.int .i64 xk, .int .i64 xo, .string xn], .int .i64 xe]) (by simp [results, Try.results43, go_sem, q0, q1, q2]) rfl ⟨by rw [unhide HE]; rfl, qb⟩
set_option maxHeartbeats 8000000 in
set_option maxRecDepth 1000000 in
theorem rown_12 (s : SP) (v : Value) (p r : ByteArray) (eb : Bool) (en : Int) (es et ei : ByteArray) (elo : Option Addr) (ell elc : Nat) (ak aq : Int) (an : ByteArray) (lo : Option Addr) (cap : Nat) (w : World) (_hsm : SmS s) (hs : IsST w v s) (hr : RowT3 w lo [⟨ak, aq, an⟩]) : Calls Try.prog 43 #[v, .agg #[.int .i64 12, .bool eb, .int .i64 en, .string es, .string et, .string ei, .slice elo ell elc], .slice lo 1 cap] w fun e w' => e = .returned (nodeT s p r 12 es et ei [⟨ak, aq, an⟩]).ret ∧ Below w.heap.size w w' := by
 obtain ⟨ko, kc, ao, acp, rfl, _, _⟩ := hs.ex2
 obtain ⟨bX, zX, k1, k2, k3⟩ := alloc3 w (.cells #[.slice ko s.ks.length kc, .slice ao s.ac.length acp] 33) (.cells #[.int .i64 12, .bool eb, .int .i64 en, .string es, .string et, .string ei, .slice elo ell elc] 39) (.cells #[.int .i64 0, .int .i64 0, .string ⟨#[]⟩] 54)
 have HS := hide hs
 have HR := hide hr
 obtain ⟨g, off, rfl, hg, hat0⟩ := hr.get (Below.refl _ w) (show 0 < ([⟨ak, aq, an⟩] : List T3).length by simp)
 have hat0 : AtT3 w g off ⟨ak, aq, an⟩ := by simpa using hat0
 obtain ⟨a0, a1, a2⟩ := hat0
 simp only at a0 a1 a2
 clear hs hr
 go_enter Try.func43, Try.ntmps43
 go_upto_region 1 with fail
 generalize ((w.alloc _).alloc _).alloc _ = w1 at *
 clear zX
 have hw1 : w.heap.size ≤ w1.heap.size := bX.size
 have b2 := blw1 w1 (.cells #[.int .i64 0, .int .i64 0, .string ⟨#[]⟩] 54)
 have h2 := alloc_heap w1 (.cells #[.int .i64 0, .int .i64 0, .string ⟨#[]⟩] 54)
 have k4 := h2
 have B2 := b2
 obtain ⟨n0, n1, n2⟩ := bl3_ h2
 have nf : ∀ o, (w1.alloc (.cells #[.int .i64 0, .int .i64 0, .string ⟨#[]⟩] 54)).frozen? ⟨w1.heap.size, o, none⟩ = false := fun o => Lib.frozen_of_heap h2 o
 go_upto_region 2 with fail
 clear n0 n1 n2 nf b2 h2
 generalize w1.alloc _ = w2 at *
 have bX := bX.trans (B2.mono bX.size)
 have k1 := kept_of_below B2 k1
 have k2 := kept_of_below B2 k2
 have k3 := kept_of_below B2 k3
 have hs2 := (unhide HS).below bX
 have hr2 := (unhide HR).below bX
 clear B2
 have ce0 : w2.cell? ⟨w.heap.size + 1, 0, none⟩ = some (.int .i64 12) := lc_ k2 rfl
 have ce3 : w2.cell? ⟨w.heap.size + 1, 3, none⟩ = some (.string es) := lc_ k2 rfl
 have a0 := (bX.cell (p := ⟨g, off, none⟩) hg).trans a0
 have a1 := (bX.cell (p := ⟨g, off + 1, none⟩) hg).trans a1
 have a2 := (bX.cell (p := ⟨g, off + 2, none⟩) hg).trans a2
 have C := rneed_any [⟨ak, aq, an⟩] _ cap 1 2 2 w2 rfl (by simp) hr2
 have HE : nodeT s p r 12 es et ei [⟨ak, aq, an⟩] = needT [⟨ak, aq, an⟩] 2 2 := by
  rw [need_one]
  rfl
 obtain ⟨x, hx⟩ : ∃ x : TR, x = needT [⟨ak, aq, an⟩] 2 2 := ⟨_, rfl⟩
 rw [← hx] at C HE
 obtain ⟨⟨xk, xo, xn⟩, xe⟩ := x
 have HE := hide HE
 clear hx hs2 hr2
 unfold TR.ret at C
 simp only at C
 go_wp2_with fail
 refine C.mono ?_
 clear C
 rintro e9 w5 ⟨rfl, b5⟩
 have hV5 := kept_of_below b5 k3
 have bb5 := bX.trans (b5.mono bX.size)
 obtain ⟨z0, z1, z2⟩ := bl3_ hV5
 have zf : ∀ o, w5.frozen? ⟨w.heap.size + 2, o, none⟩ = false := fun o => Lib.frozen_of_heap hV5 o
 have HQ := hide (set3_all (.int .i64 xk) (.int .i64 xo) (.string xn) hV5 bb5 (Nat.le_add_right _ 2))
 go_wp2
 obtain ⟨q0, q1, q2, qb⟩ := unhide HQ
 exact bodyPost_ret (v := .tuple #[.agg #[.int .i64 xk, .int .i64 xo, .string xn], .int .i64 xe]) (by simp [results, Try.results43, go_sem, q0, q1, q2]) rfl ⟨by rw [unhide HE]; rfl, qb⟩
end Go.Proofs.Ytagnbpobcijakaa
