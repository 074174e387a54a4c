/-
  schema: the place of a kind, of an action; names; what they return.
-/
import Derived.Test.YtbcddjaecdoliaaScA
import Derived.Deep.QuietTactic
import Derived.BigQuiet
namespace Go.Proofs.Ytbcddjaecdoliaa
open Go.RowKit Go.Sort


set_option maxHeartbeats 1000000 in
set_option maxRecDepth 1000000 in
theorem placeK1_any (x : N3) (n : ByteArray) (b : Nat) (w : World) (hb : b < w.heap.size) (hn : w.cell? ⟨b, 0, none⟩ = some (.string n)) :
    Calls Try.prog 56 #[x.val, .pointer (some ⟨b, 0, none⟩)] w fun e w' => e = .returned (.bool (decide (x.nm = n))) ∧ Below w.heap.size w w' := by
  unfold N3.val
  by_cases h : x.nm = n
  · subst h
    go_enter Try.func56, Try.ntmps56
    go_wp2
    go_ret
    exact ⟨by simp, blw1 _ _⟩
  · have hb : (x.nm.toList == n.toList) = false := bytes_ne h
    go_enter Try.func56, Try.ntmps56
    go_wp2
    go_ret
    exact ⟨by simp [h], blw1 _ _⟩

set_option maxHeartbeats 2000000 in
set_option maxRecDepth 1000000 in
theorem indexK_any (ks : List KP) (n : ByteArray) (ao : Option Addr) (cap b : Nat) (w : World) (hl : ks.length ≤ 281474976710656) (hb : b < w.heap.size) (hn : w.cell? ⟨b, 0, none⟩ = some (.string n)) (hr : IsKs w ao ks) :
    Calls Try.prog 55 #[.slice ao ks.length cap, .func (.func 56) #[] #[.pointer (some ⟨b, 0, none⟩)]] w fun e w' => ∃ z : Int, e = .returned (.int .i64 z) ∧ Place (ks.map KP.nm) n z ∧ Below w.heap.size w w' := by
  have HR := hide hr
  clear hr
  go_enter Try.func55, Try.ntmps55
  go_wp2
  go_loopw [8] (fun iv wr => ∃ i : Nat, iv = .int .i64 i ∧ i ≤ ks.length ∧ Below w.heap.size w wr ∧ ∀ j (hj : j < ks.length), j < i → (ks[j]).nm ≠ n) (fun iv _ => ks.length - (intOf iv).toNat)
  case atStart => exact ⟨0, by go_num, Nat.zero_le _, Below.refl _ _, fun j _ h => absurd h (Nat.not_lt_zero _)⟩
  case round =>
    obtain ⟨i, rfl, hil, hbw, hlo⟩ := hrel
    have Hlo := hide hlo
    clear hlo
    by_cases hlt : i < ks.length
    · have i0 : (0 : Int) ≤ (i : Int) := by omega
      have i1 : (i : Int) < (ks.length : Int) := by omega
      obtain ⟨x, g, off, rfl, hg, hx, hk⟩ := (unhide HR).get hbw hlt
      have C := placeK1_any x n b wr (by have := hbw.size; omega) ((hbw.cell (p := ⟨b, 0, none⟩) hb).trans hn)
      obtain ⟨a0, a1, a2⟩ := hx
      have Hk := hide hk.nm
      clear hk
      unfold N3.val at C
      go_wp2_with fail
      refine C.mono ?_
      rintro e w2 ⟨rfl, b2⟩
      have b3 := hbw.trans (b2.mono hbw.size)
      clear C
      by_cases he : x.nm = n
      · have hd : decide (x.nm = n) = true := decide_eq_true he
        have He := hide he
        rw [hd]
        clear he hd
        go_wp2
        go_ret
        refine ⟨i, rfl, .inr ⟨i, rfl, by simpa using hlt, by simpa using (unhide Hk).symm.trans (unhide He), fun j hj hji => ?_⟩, b3⟩
        simpa using unhide Hlo j (by simpa using hj) hji
      · have hd : decide (x.nm = n) = false := decide_eq_false he
        have He := hide he
        rw [hd]
        clear he hd
        go_wp2
        go_roundw
        case rel =>
          refine ⟨i + 1, by go_num, by omega, b3, fun j hj hji => ?_⟩
          by_cases e : j = i
          · subst e
            exact fun h => unhide He ((unhide Hk).trans h)
          · exact unhide Hlo j hj (by omega)
        case measure =>
          simp only [intOf]
          omega
    · have i1 : ¬ (i : Int) < (ks.length : Int) := by omega
      go_wp2
      go_ret
      refine ⟨-1, rfl, .inl ⟨rfl, fun h => ?_⟩, hbw⟩
      obtain ⟨j, hj, e⟩ := List.getElem_of_mem h
      rw [List.getElem_map] at e
      exact unhide Hlo j (by simpa using hj) (by have : j < ks.length := by simpa using hj
                                                 omega) e

set_option maxHeartbeats 2000000 in
set_option maxRecDepth 1000000 in
theorem placeOfKind_any (s : SP) (v : Value) (n : ByteArray) (w : World) (hl : s.ks.length ≤ 281474976710656) (hs : IsS w v s) :
    Calls Try.prog 41 #[v, .string n] w fun e w' => ∃ z : Int, e = .returned (.int .i64 z) ∧ Place s.names n z ∧ Below w.heap.size w w' := by
  obtain ⟨ko, kc, ao, ac, rfl, hk, ha⟩ := hs.ex
  have b2 := blw2 w (.cells #[.slice ko s.ks.length kc, .slice ao s.ac.length ac] 25) (.cells #[.string n] 9)
  have S := indexK_any s.ks n ko kc (w.heap.size + 1) ((w.alloc (.cells #[.slice ko s.ks.length kc, .slice ao s.ac.length ac] 25)).alloc (.cells #[.string n] 9)) hl (by simp) (by simp) (hk.below b2)
  clear hs hk ha
  go_enter Try.func41, Try.ntmps41
  go_wp2_with fail
  generalize (w.alloc _).alloc _ = w2 at *
  refine S.mono ?_
  clear S
  rintro e w3 ⟨z, rfl, hz, b3⟩
  go_wp2
  go_ret
  exact ⟨z, rfl, hz, b2.trans (b3.mono b2.size)⟩

set_option maxHeartbeats 1000000 in
set_option maxRecDepth 1000000 in
theorem placeA1_any (x : N3) (n : ByteArray) (b : Nat) (w : World) (hb : b < w.heap.size) (hn : w.cell? ⟨b, 0, none⟩ = some (.string n)) :
    Calls Try.prog 58 #[x.val, .pointer (some ⟨b, 0, none⟩)] w fun e w' => e = .returned (.bool (decide (x.nm = n))) ∧ Below w.heap.size w w' := by
  unfold N3.val
  by_cases h : x.nm = n
  · subst h
    go_enter Try.func58, Try.ntmps58
    go_wp2
    go_ret
    exact ⟨by simp, blw1 _ _⟩
  · have hb : (x.nm.toList == n.toList) = false := bytes_ne h
    go_enter Try.func58, Try.ntmps58
    go_wp2
    go_ret
    exact ⟨by simp [h], blw1 _ _⟩

set_option maxHeartbeats 2000000 in
set_option maxRecDepth 1000000 in
theorem indexA_any (ks : List AP) (n : ByteArray) (ao : Option Addr) (cap b : Nat) (w : World) (hl : ks.length ≤ 281474976710656) (hb : b < w.heap.size) (hn : w.cell? ⟨b, 0, none⟩ = some (.string n)) (hr : IsAs w ao ks) :
    Calls Try.prog 57 #[.slice ao ks.length cap, .func (.func 58) #[] #[.pointer (some ⟨b, 0, none⟩)]] w fun e w' => ∃ z : Int, e = .returned (.int .i64 z) ∧ Place (ks.map AP.nm) n z ∧ Below w.heap.size w w' := by
  have HR := hide hr
  clear hr
  go_enter Try.func57, Try.ntmps57
  go_wp2
  go_loopw [8] (fun iv wr => ∃ i : Nat, iv = .int .i64 i ∧ i ≤ ks.length ∧ Below w.heap.size w wr ∧ ∀ j (hj : j < ks.length), j < i → (ks[j]).nm ≠ n) (fun iv _ => ks.length - (intOf iv).toNat)
  case atStart => exact ⟨0, by go_num, Nat.zero_le _, Below.refl _ _, fun j _ h => absurd h (Nat.not_lt_zero _)⟩
  case round =>
    obtain ⟨i, rfl, hil, hbw, hlo⟩ := hrel
    have Hlo := hide hlo
    clear hlo
    by_cases hlt : i < ks.length
    · have i0 : (0 : Int) ≤ (i : Int) := by omega
      have i1 : (i : Int) < (ks.length : Int) := by omega
      obtain ⟨x, g, off, rfl, hg, hx, hk⟩ := (unhide HR).get hbw hlt
      have C := placeA1_any x n b wr (by have := hbw.size; omega) ((hbw.cell (p := ⟨b, 0, none⟩) hb).trans hn)
      obtain ⟨a0, a1, a2⟩ := hx
      have Hk := hide hk.nm
      clear hk
      unfold N3.val at C
      go_wp2_with fail
      refine C.mono ?_
      rintro e w2 ⟨rfl, b2⟩
      have b3 := hbw.trans (b2.mono hbw.size)
      clear C
      by_cases he : x.nm = n
      · have hd : decide (x.nm = n) = true := decide_eq_true he
        have He := hide he
        rw [hd]
        clear he hd
        go_wp2
        go_ret
        refine ⟨i, rfl, .inr ⟨i, rfl, by simpa using hlt, by simpa using (unhide Hk).symm.trans (unhide He), fun j hj hji => ?_⟩, b3⟩
        simpa using unhide Hlo j (by simpa using hj) hji
      · have hd : decide (x.nm = n) = false := decide_eq_false he
        have He := hide he
        rw [hd]
        clear he hd
        go_wp2
        go_roundw
        case rel =>
          refine ⟨i + 1, by go_num, by omega, b3, fun j hj hji => ?_⟩
          by_cases e : j = i
          · subst e
            exact fun h => unhide He ((unhide Hk).trans h)
          · exact unhide Hlo j hj (by omega)
        case measure =>
          simp only [intOf]
          omega
    · have i1 : ¬ (i : Int) < (ks.length : Int) := by omega
      go_wp2
      go_ret
      refine ⟨-1, rfl, .inl ⟨rfl, fun h => ?_⟩, hbw⟩
      obtain ⟨j, hj, e⟩ := List.getElem_of_mem h
      rw [List.getElem_map] at e
      exact unhide Hlo j (by simpa using hj) (by have : j < ks.length := by simpa using hj
                                                 omega) e

set_option maxHeartbeats 2000000 in
set_option maxRecDepth 1000000 in
theorem placeOfAction_any (s : SP) (v : Value) (n : ByteArray) (w : World) (hl : s.ac.length ≤ 281474976710656) (hs : IsS w v s) :
    Calls Try.prog 44 #[v, .string n] w fun e w' => ∃ z : Int, e = .returned (.int .i64 z) ∧ Place s.acts n z ∧ Below w.heap.size w w' := by
  obtain ⟨ko, kc, ao, ac, rfl, hk, ha⟩ := hs.ex
  have b2 := blw2 w (.cells #[.slice ko s.ks.length kc, .slice ao s.ac.length ac] 25) (.cells #[.string n] 9)
  have S := indexA_any s.ac n ao ac (w.heap.size + 1) ((w.alloc (.cells #[.slice ko s.ks.length kc, .slice ao s.ac.length ac] 25)).alloc (.cells #[.string n] 9)) hl (by simp) (by simp) (ha.below b2)
  clear hs hk ha
  go_enter Try.func44, Try.ntmps44
  go_wp2_with fail
  generalize (w.alloc _).alloc _ = w2 at *
  refine S.mono ?_
  clear S
  rintro e w3 ⟨z, rfl, hz, b3⟩
  go_wp2
  go_ret
  exact ⟨z, rfl, hz, b2.trans (b3.mono b2.size)⟩

theorem lit_ne {s t : ByteArray} {l : List UInt8} (ht : t.data.toList = l) (h : s ≠ t) : (s.toList == l) = false := by
  rw [← ht, ← ByteArray.toList_eq]
  exact bytes_ne h
set_option maxHeartbeats 1000000 in
set_option maxRecDepth 1000000 in
theorem mident_any (s : ByteArray) (w : World) (hs : s.size ≤ 281474976710656) : Calls Try.prog 61 #[.string s] w fun e w' => e = .returned (.bool (nameB s.data.toList)) ∧ Below w.heap.size w w' := by
  have N := fun w => isName_big s w hs
  go_enter Try.func61, Try.ntmps61
  go_wp2_with fail
  refine (N _).mono ?_
  rintro e w2 ⟨rfl, b2⟩
  go_wp2
  go_ret
  exact ⟨rfl, b2⟩

set_option maxHeartbeats 1000000 in
set_option maxRecDepth 1000000 in
theorem checkName_any (nm ahead : ByteArray) (w : World) (hs : nm.size ≤ 281474976710656) : Calls Try.prog 49 #[.string nm, .string ahead] w fun e w' => e = .returned (.int .i64 (nameC nm ahead)) ∧ Below w.heap.size w w' := by
  have N := fun w => mident_any nm w hs
  have hN : ∀ z, nameB nm.data.toList = z → nameC nm ahead = if z then (if leB nm ahead then 7 else 0) else 15 := fun z h => by
    unfold nameC
    rw [h]
  generalize nameB nm.data.toList = z at *
  have HN := hide (hN z rfl)
  clear hN
  go_enter Try.func49, Try.ntmps49
  go_wp2_with fail
  refine (N _).mono ?_
  rintro e w2 ⟨rfl, b2⟩
  clear N
  cases z
  · go_wp2
    go_ret
    exact ⟨by rw [unhide HN]; rfl, b2⟩
  · by_cases hlt : leB nm ahead = true
    · have h' := hlt
      rw [leB_eq] at h'
      have HL := hide hlt
      clear hlt
      go_wp2
      go_ret
      exact ⟨by rw [unhide HN, unhide HL]; rfl, b2⟩
    · rw [Bool.not_eq_true] at hlt
      have h' := hlt
      rw [leB_eq] at h'
      have HL := hide hlt
      clear hlt
      go_wp2
      go_ret
      exact ⟨by rw [unhide HN, unhide HL]; rfl, b2⟩

set_option maxHeartbeats 1000000 in
set_option maxRecDepth 1000000 in
theorem isTaken_any (nm : ByteArray) (w : World) : Calls Try.prog 48 #[.string nm] w fun e w' => e = .returned (.bool (takenB nm)) ∧ w' = w := by
  by_cases h1 : nm = ⟨#[65, 99, 116, 105, 111, 110]⟩
  · subst h1
    go_enter Try.func48, Try.ntmps48
    go_wp2
    go_ret
    exact ⟨by simp [takenB], rfl⟩
  have e1 : (nm.toList == [65, 99, 116, 105, 111, 110]) = false := lit_ne (by decide) h1
  by_cases h2 : nm = ⟨#[66, 111, 111, 108]⟩
  · subst h2
    go_enter Try.func48, Try.ntmps48
    go_wp2
    go_ret
    exact ⟨by simp [takenB], rfl⟩
  have e2 : (nm.toList == [66, 111, 111, 108]) = false := lit_ne (by decide) h2
  by_cases h3 : nm = ⟨#[76, 111, 110, 103]⟩
  · subst h3
    go_enter Try.func48, Try.ntmps48
    go_wp2
    go_ret
    exact ⟨by simp [takenB], rfl⟩
  have e3 : (nm.toList == [76, 111, 110, 103]) = false := lit_ne (by decide) h3
  by_cases h4 : nm = ⟨#[83, 116, 114, 105, 110, 103]⟩
  · subst h4
    go_enter Try.func48, Try.ntmps48
    go_wp2
    go_ret
    exact ⟨by simp [takenB], rfl⟩
  have e4 : (nm.toList == [83, 116, 114, 105, 110, 103]) = false := lit_ne (by decide) h4
  by_cases h5 : nm = ⟨#[83, 101, 116]⟩
  · subst h5
    go_enter Try.func48, Try.ntmps48
    go_wp2
    go_ret
    exact ⟨by simp [takenB], rfl⟩
  have e5 : (nm.toList == [83, 101, 116]) = false := lit_ne (by decide) h5
  have HT : takenB nm = false := by simp [takenB, h1, h2, h3, h4, h5]
  rw [HT]
  clear h1 h2 h3 h4 h5 HT
  go_enter Try.func48, Try.ntmps48
  go_wp2
  go_ret
  exact ⟨rfl, rfl⟩
end Go.Proofs.Ytbcddjaecdoliaa
