/-
 schema: the place of a kind, of an action; names; what they return.
 schema.Check and its parts: what they return.
 schema.checkType: what it returns.
 schema.checkKind, checkAction: what they return.
 schema.Check: what it returns.
 schema: what a function of the check returns.
 schema: what a function of the check returns.
 schema: what a function of the check returns.
-/
import Derived.Test.YtagnbpobcijakaaScA
import Derived.Deep.QuietTactic
import Derived.BigQuiet
import Derived.BigGuardPart
namespace Go.Proofs.Ytagnbpobcijakaa
open Go.RowKit Go.Sort


set_option maxHeartbeats 1000000 in
set_option maxRecDepth 1000000 in
theorem placeK1_any (x : N3) (n : ByteArray) (b : Nat) (w : World) (hb : b < w.heap.size) (hn : w.cell? ⟨b, 0, none⟩ = some (.string n)) :
  Calls Try.prog 75 #[x.val, .pointer (some ⟨b, 0, none⟩)] w fun e w' => e = .returned (.bool (decide (x.nm = n))) ∧ Below w.heap.size w w' := by
 unfold N3.val
 by_cases h : x.nm = n
 ·subst h
  go_enter Try.func75, Try.ntmps75
  go_wp2
  go_ret
  exact ⟨by simp, blw1 _ _⟩
 ·have hb : (x.nm.toList == n.toList) = false := bytes_ne h
  go_enter Try.func75, Try.ntmps75
  go_wp2
  go_ret
  exact ⟨by simp [h], blw1 _ _⟩

set_option maxHeartbeats 2000000 in
set_option maxRecDepth 1000000 in
theorem indexK_any (ks : List KP) (n : ByteArray) (ao : Option Addr) (cap b : Nat) (w : World) (hl : ks.length ≤ 281474976710656) (hb : b < w.heap.size) (hn : w.cell? ⟨b, 0, none⟩ = some (.string n)) (hr : IsKs w ao ks) :
  Calls Try.prog 74 #[.slice ao ks.length cap, .func (.func 75) #[] #[.pointer (some ⟨b, 0, none⟩)]] w fun e w' => ∃ z : Int, e = .returned (.int .i64 z) ∧ Place (ks.map KP.nm) n z ∧ Below w.heap.size w w' := by
 have HR := hide hr
 clear hr
 go_enter Try.func74, Try.ntmps74
 go_wp2
 go_loopw [8] (fun iv wr => ∃ i : Nat, iv = .int .i64 i ∧ i ≤ ks.length ∧ Below w.heap.size w wr ∧ ∀ j (hj : j < ks.length), j < i → (ks[j]).nm ≠ n) (fun iv _ => ks.length - (intOf iv).toNat)
 case atStart => exact ⟨0, by go_num, Nat.zero_le _, Below.refl _ _, fun j _ h => absurd h (Nat.not_lt_zero _)⟩
 case round =>
  obtain ⟨i, rfl, hil, hbw, hlo⟩ := hrel
  have Hlo := hide hlo
  clear hlo
  by_cases hlt : i < ks.length
  ·have i0 : (0 : Int) ≤ (i : Int) := by omega
   have i1 : (i : Int) < (ks.length : Int) := by omega
   obtain ⟨x, g, off, rfl, hg, hx, hk⟩ := (unhide HR).get hbw hlt
   have C := placeK1_any x n b wr (by have := hbw.size; omega) ((hbw.cell (p := ⟨b, 0, none⟩) hb).trans hn)
   obtain ⟨a0, a1, a2⟩ := hx
   have Hk := hide hk.nm
   clear hk
   unfold N3.val at C
   go_wp2_with fail
   refine C.mono ?_
   rintro e w2 ⟨rfl, b2⟩
   have b3 := hbw.trans (b2.mono hbw.size)
   clear C
   by_cases he : x.nm = n
   ·have hd : decide (x.nm = n) = true := decide_eq_true he
    have He := hide he
    rw [hd]
    clear he hd
    go_wp2
    go_ret
    refine ⟨i, rfl, .inr ⟨i, rfl, by simpa using hlt, by simpa using (unhide Hk).symm.trans (unhide He), fun j hj hji => ?_⟩, b3⟩
    simpa using unhide Hlo j (by simpa using hj) hji
   ·have hd : decide (x.nm = n) = false := decide_eq_false he
    have He := hide he
    rw [hd]
    clear he hd
    go_wp2
    go_roundw
    case rel =>
     refine ⟨i + 1, by go_num, by omega, b3, fun j hj hji => ?_⟩
     by_cases e : j = i
     ·subst e
      exact fun h => unhide He ((unhide Hk).trans h)
     ·exact unhide Hlo j hj (by omega)
    case measure =>
     simp only [intOf]
     omega
  ·have i1 : ¬ (i : Int) < (ks.length : Int) := by omega
   go_wp2
   go_ret
   refine ⟨-1, rfl, .inl ⟨rfl, fun h => ?_⟩, hbw⟩
   obtain ⟨j, hj, e⟩ := List.getElem_of_mem h
   rw [List.getElem_map] at e
   exact unhide Hlo j (by simpa using hj) (by have : j < ks.length := by simpa using hj
                                              omega) e

set_option maxHeartbeats 2000000 in
set_option maxRecDepth 1000000 in
theorem placeOfKind_any (s : SP) (v : Value) (n : ByteArray) (w : World) (hl : s.ks.length ≤ 281474976710656) (hs : IsS w v s) :
  Calls Try.prog 67 #[v, .string n] w fun e w' => ∃ z : Int, e = .returned (.int .i64 z) ∧ Place s.names n z ∧ Below w.heap.size w w' := by
 obtain ⟨ko, kc, ao, ac, rfl, hk, ha⟩ := hs.ex
 have b2 := blw2 w (.cells #[.slice ko s.ks.length kc, .slice ao s.ac.length ac] 33) (.cells #[.string n] 9)
 have S := indexK_any s.ks n ko kc (w.heap.size + 1) ((w.alloc (.cells #[.slice ko s.ks.length kc, .slice ao s.ac.length ac] 33)).alloc (.cells #[.string n] 9)) hl (by simp) (by simp) (hk.below b2)
 clear hs hk ha
 go_enter Try.func67, Try.ntmps67
 go_wp2_with fail
 generalize (w.alloc _).alloc _ = w2 at *
 refine S.mono ?_
 clear S
 rintro e w3 ⟨z, rfl, hz, b3⟩
 go_wp2
 go_ret
 exact ⟨z, rfl, hz, b2.trans (b3.mono b2.size)⟩

set_option maxHeartbeats 1000000 in
set_option maxRecDepth 1000000 in
theorem placeA1_any (x : N3) (n : ByteArray) (b : Nat) (w : World) (hb : b < w.heap.size) (hn : w.cell? ⟨b, 0, none⟩ = some (.string n)) :
  Calls Try.prog 73 #[x.val, .pointer (some ⟨b, 0, none⟩)] w fun e w' => e = .returned (.bool (decide (x.nm = n))) ∧ Below w.heap.size w w' := by
 unfold N3.val
 by_cases h : x.nm = n
 ·subst h
  go_enter Try.func73, Try.ntmps73
  go_wp2
  go_ret
  exact ⟨by simp, blw1 _ _⟩
 ·have hb : (x.nm.toList == n.toList) = false := bytes_ne h
  go_enter Try.func73, Try.ntmps73
  go_wp2
  go_ret
  exact ⟨by simp [h], blw1 _ _⟩

set_option maxHeartbeats 2000000 in
set_option maxRecDepth 1000000 in
theorem indexA_any (ks : List AP) (n : ByteArray) (ao : Option Addr) (cap b : Nat) (w : World) (hl : ks.length ≤ 281474976710656) (hb : b < w.heap.size) (hn : w.cell? ⟨b, 0, none⟩ = some (.string n)) (hr : IsAs w ao ks) :
  Calls Try.prog 72 #[.slice ao ks.length cap, .func (.func 73) #[] #[.pointer (some ⟨b, 0, none⟩)]] w fun e w' => ∃ z : Int, e = .returned (.int .i64 z) ∧ Place (ks.map AP.nm) n z ∧ Below w.heap.size w w' := by
 have HR := hide hr
 clear hr
 go_enter Try.func72, Try.ntmps72
 go_wp2
 go_loopw [8] (fun iv wr => ∃ i : Nat, iv = .int .i64 i ∧ i ≤ ks.length ∧ Below w.heap.size w wr ∧ ∀ j (hj : j < ks.length), j < i → (ks[j]).nm ≠ n) (fun iv _ => ks.length - (intOf iv).toNat)
 case atStart => exact ⟨0, by go_num, Nat.zero_le _, Below.refl _ _, fun j _ h => absurd h (Nat.not_lt_zero _)⟩
 case round =>
  obtain ⟨i, rfl, hil, hbw, hlo⟩ := hrel
  have Hlo := hide hlo
  clear hlo
  by_cases hlt : i < ks.length
  ·have i0 : (0 : Int) ≤ (i : Int) := by omega
   have i1 : (i : Int) < (ks.length : Int) := by omega
   obtain ⟨x, g, off, rfl, hg, hx, hk⟩ := (unhide HR).get hbw hlt
   have C := placeA1_any x n b wr (by have := hbw.size; omega) ((hbw.cell (p := ⟨b, 0, none⟩) hb).trans hn)
   obtain ⟨a0, a1, a2⟩ := hx
   have Hk := hide hk.nm
   clear hk
   unfold N3.val at C
   go_wp2_with fail
   refine C.mono ?_
   rintro e w2 ⟨rfl, b2⟩
   have b3 := hbw.trans (b2.mono hbw.size)
   clear C
   by_cases he : x.nm = n
   ·have hd : decide (x.nm = n) = true := decide_eq_true he
    have He := hide he
    rw [hd]
    clear he hd
    go_wp2
    go_ret
    refine ⟨i, rfl, .inr ⟨i, rfl, by simpa using hlt, by simpa using (unhide Hk).symm.trans (unhide He), fun j hj hji => ?_⟩, b3⟩
    simpa using unhide Hlo j (by simpa using hj) hji
   ·have hd : decide (x.nm = n) = false := decide_eq_false he
    have He := hide he
    rw [hd]
    clear he hd
    go_wp2
    go_roundw
    case rel =>
     refine ⟨i + 1, by go_num, by omega, b3, fun j hj hji => ?_⟩
     by_cases e : j = i
     ·subst e
      exact fun h => unhide He ((unhide Hk).trans h)
     ·exact unhide Hlo j hj (by omega)
    case measure =>
     simp only [intOf]
     omega
  ·have i1 : ¬ (i : Int) < (ks.length : Int) := by omega
   go_wp2
   go_ret
   refine ⟨-1, rfl, .inl ⟨rfl, fun h => ?_⟩, hbw⟩
   obtain ⟨j, hj, e⟩ := List.getElem_of_mem h
   rw [List.getElem_map] at e
   exact unhide Hlo j (by simpa using hj) (by have : j < ks.length := by simpa using hj
                                              omega) e

set_option maxHeartbeats 2000000 in
set_option maxRecDepth 1000000 in
theorem placeOfAction_any (s : SP) (v : Value) (n : ByteArray) (w : World) (hl : s.ac.length ≤ 281474976710656) (hs : IsS w v s) :
  Calls Try.prog 65 #[v, .string n] w fun e w' => ∃ z : Int, e = .returned (.int .i64 z) ∧ Place s.acts n z ∧ Below w.heap.size w w' := by
 obtain ⟨ko, kc, ao, ac, rfl, hk, ha⟩ := hs.ex
 have b2 := blw2 w (.cells #[.slice ko s.ks.length kc, .slice ao s.ac.length ac] 33) (.cells #[.string n] 9)
 have S := indexA_any s.ac n ao ac (w.heap.size + 1) ((w.alloc (.cells #[.slice ko s.ks.length kc, .slice ao s.ac.length ac] 33)).alloc (.cells #[.string n] 9)) hl (by simp) (by simp) (ha.below b2)
 clear hs hk ha
 go_enter Try.func65, Try.ntmps65
 go_wp2_with fail
 generalize (w.alloc _).alloc _ = w2 at *
 refine S.mono ?_
 clear S
 rintro e w3 ⟨z, rfl, hz, b3⟩
 go_wp2
 go_ret
 exact ⟨z, rfl, hz, b2.trans (b3.mono b2.size)⟩

theorem lit_ne {s t : ByteArray} {l : List UInt8} (ht : t.data.toList = l) (h : s ≠ t) : (s.toList == l) = false := by
 rw [← ht, ← ByteArray.toList_eq]
 exact bytes_ne h
end Go.Proofs.Ytagnbpobcijakaa

namespace Go.Proofs.Ytagnbpobcijakaa
open Go.RowKit Go.Sort

/-- A schema whose names and rows are no longer than memory has room for. -/
structure SmallS (s : SP) : Prop where
 ks : s.ks.length ≤ 281474976710656
 ac : s.ac.length ≤ 281474976710656
theorem IsS.schema {w : World} {ko ao : Option Addr} {kc ac : Nat} {s : SP} (h : IsS w (.agg #[.slice ko s.ks.length kc, .slice ao s.ac.length ac]) s) : IsKs w ko s.ks ∧ IsAs w ao s.ac := by
 obtain ⟨ko', kc', ao', ac', e, h1, h2⟩ := h.ex
 injection e with e
 simp only [Array.mk.injEq, List.cons.injEq, Value.slice.injEq, and_true] at e
 obtain ⟨⟨rfl, _⟩, rfl, _⟩ := e
 exact ⟨h1, h2⟩

end Go.Proofs.Ytagnbpobcijakaa

namespace Go.Proofs.Ytagnbpobcijakaa
open Go.RowKit Go.Sort

end Go.Proofs.Ytagnbpobcijakaa

namespace Go.Proofs.Ytagnbpobcijakaa
open Go.RowKit Go.Sort

/-- Names and rows that memory has room for. -/
structure SmallK (k : KP) : Prop where
 nm : k.nm.size ≤ 281474976710656
 ps : k.ps.length ≤ 281474976710656
 fs : k.fs.length ≤ 281474976710656
 f : ∀ j (h : j < k.fs.length), (k.fs[j]).nm.size ≤ 281474976710656
structure SmallA (a : AP) : Prop where
 nm : a.nm.size ≤ 281474976710656
 pr : a.pr.length ≤ 281474976710656
 re : a.re.length ≤ 281474976710656
end Go.Proofs.Ytagnbpobcijakaa

namespace Go.Proofs.Ytagnbpobcijakaa
open Go.RowKit Go.Sort

/-- All of a schema has room. -/
structure SmallAll (s : SP) : Prop where
 sm : SmallS s
 k : ∀ j (h : j < s.ks.length), SmallK s.ks[j]
 a : ∀ j (h : j < s.ac.length), SmallA s.ac[j]
end Go.Proofs.Ytagnbpobcijakaa

namespace Go.Proofs.Ytagnbpobcijakaa
open Go.RowKit Go.Sort

end Go.Proofs.Ytagnbpobcijakaa

namespace Go.Proofs.Ytagnbpobcijakaa
open Go.RowKit Go.Sort

end Go.Proofs.Ytagnbpobcijakaa

namespace Go.Proofs.Ytagnbpobcijakaa
open Go.RowKit Go.Sort

end Go.Proofs.Ytagnbpobcijakaa
