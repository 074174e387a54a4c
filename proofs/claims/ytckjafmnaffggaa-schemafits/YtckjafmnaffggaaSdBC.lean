/-
  slices.Index, Contains of texts; schema.Fits: what they return.
  schema.Fits: what it returns.
-/
import Derived.Test.YtckjafmnaffggaaSdA
namespace Go.Proofs.Ytckjafmnaffggaa
open Go.RowKit Go.Sort

set_option maxHeartbeats 2000000 in
set_option maxRecDepth 1000000 in
theorem indexS_any (l : List ByteArray) (n : ByteArray) (ao : Option Addr) (cap : Nat) (w : World) (hl : l.length ≤ 281474976710656) (hr : RowS w ao l) :
    Calls Try.prog 60 #[.slice ao l.length cap, .string n] w fun e w' => ∃ z : Int, e = .returned (.int .i64 z) ∧ Place l n z ∧ Below w.heap.size w w' := by
  have HR := hide hr
  clear hr
  go_enter Try.func60, Try.ntmps60
  go_wp2
  go_loopw [8] (fun iv wr => ∃ i : Nat, iv = .int .i64 i ∧ i ≤ l.length ∧ Below w.heap.size w wr ∧ ∀ j (hj : j < l.length), j < i → l[j] ≠ n) (fun iv _ => l.length - (intOf iv).toNat)
  case atStart => exact ⟨0, by go_num, Nat.zero_le _, Below.refl _ _, fun j _ h => absurd h (Nat.not_lt_zero _)⟩
  case round =>
    obtain ⟨i, rfl, hil, hbw, hlo⟩ := hrel
    have Hlo := hide hlo
    clear hlo
    by_cases hlt : i < l.length
    · have i0 : (0 : Int) ≤ (i : Int) := by omega
      have i1 : (i : Int) < (l.length : Int) := by omega
      obtain ⟨g, off, rfl, hg, hx⟩ := (unhide HR).get hbw hlt
      obtain ⟨x, hxe⟩ : ∃ x, x = l[i] := ⟨_, rfl⟩
      rw [← hxe] at hx
      have Hx := hide hxe
      clear hxe
      by_cases he : n = x
      · subst he
        go_wp2
        go_ret
        refine ⟨i, rfl, .inr ⟨i, rfl, hlt, (unhide Hx).symm, fun j hj hji => unhide Hlo j hj hji⟩, hbw⟩
      · have hd : (n.toList == x.toList) = false := bytes_ne he
        have He := hide he
        clear he
        go_wp2
        go_roundw
        case rel =>
          refine ⟨i + 1, by go_num, by omega, hbw, fun j hj hji => ?_⟩
          by_cases e : j = i
          · subst e
            exact fun h => unhide He (h.symm.trans (unhide Hx).symm)
          · exact unhide Hlo j hj (by omega)
        case measure =>
          simp only [intOf]
          omega
    · have i1 : ¬ (i : Int) < (l.length : Int) := by omega
      go_wp2
      go_ret
      refine ⟨-1, rfl, .inl ⟨rfl, fun h => ?_⟩, hbw⟩
      obtain ⟨j, hj, e⟩ := List.getElem_of_mem h
      exact unhide Hlo j hj (by omega) e

set_option maxHeartbeats 1000000 in
set_option maxRecDepth 1000000 in
theorem containsS_any (l : List ByteArray) (n : ByteArray) (ao : Option Addr) (cap : Nat) (w : World) (hl : l.length ≤ 281474976710656) (hr : RowS w ao l) :
    Calls Try.prog 46 #[.slice ao l.length cap, .string n] w fun e w' => e = .returned (.bool (!noneB l n)) ∧ Below w.heap.size w w' := by
  have C := indexS_any l n ao cap w hl hr
  clear hr
  go_enter Try.func46, Try.ntmps46
  go_wp2_with fail
  refine C.mono ?_
  rintro e w2 ⟨z, rfl, hz, b2⟩
  have hn := hide hz.neg
  clear hz C
  by_cases h0 : z < 0
  · have h1 : ¬ 0 ≤ z := by omega
    have hf := hide ((unhide hn).symm.trans (decide_eq_true h0))
    go_wp2
    go_ret
    exact ⟨by rw [unhide hf]; simp [h1], b2⟩
  · have h1 : 0 ≤ z := by omega
    have hf := hide ((unhide hn).symm.trans (decide_eq_false h0))
    clear h0
    go_wp2
    go_ret
    exact ⟨by rw [unhide hf]; simp, b2⟩

/-- A request's six. -/
structure Q6 where
  pt : ByteArray
  pi : ByteArray
  at_ : ByteArray
  ai : ByteArray
  rt : ByteArray
  ri : ByteArray
def Q6.val (q : Q6) : Value := .agg #[.string q.pt, .string q.pi, .string q.at_, .string q.ai, .string q.rt, .string q.ri]
def sAction : ByteArray := ⟨#[65, 99, 116, 105, 111, 110]⟩
def actOf (s : SP) (n : ByteArray) : Option AP := s.ac.find? fun a => decide (a.nm = n)
def fitsC (s : SP) (q : Q6) : Int := if q.at_ = sAction then match actOf s q.ai with
  | none => 15
  | some a => if noneB a.pr q.pt || noneB a.re q.rt then 16 else 0
  else 15
theorem find_none {l : List AP} {n : ByteArray} (h : n ∉ l.map AP.nm) : l.find? (fun a => decide (a.nm = n)) = none := by
  rw [List.find?_eq_none]
  intro a ha hd
  exact h (of_decide_eq_true hd ▸ List.mem_map_of_mem ha)
theorem find_at : ∀ (l : List AP) (n : ByteArray) (i : Nat) (hi : i < l.length), l[i].nm = n → (∀ j (hj : j < l.length), j < i → l[j].nm ≠ n) → l.find? (fun a => decide (a.nm = n)) = some l[i]
  | [], _, _, hi, _, _ => absurd hi (Nat.not_lt_zero _)
  | a :: l, n, 0, _, h, _ => by
    have h : a.nm = n := h
    rw [List.find?_cons_of_pos (by simpa using h)]
    rfl
  | a :: l, n, i + 1, hi, h, hlo => by
    have h0 : a.nm ≠ n := hlo 0 (by simp) (Nat.succ_pos _)
    rw [List.find?_cons_of_neg (by simpa using h0)]
    exact find_at l n i (by simpa using hi) h fun j hj hji => hlo (j + 1) (by simpa using hj) (by omega)
theorem actOf_place {s : SP} {n : ByteArray} {z : Int} (h : Place s.acts n z) : (z < 0 ∧ actOf s n = none) ∨ ∃ (i : Nat) (hi : i < s.ac.length), z = i ∧ actOf s n = some s.ac[i] := by
  rcases h with ⟨rfl, h⟩ | ⟨i, rfl, hi, e, hlo⟩
  · exact .inl ⟨by omega, find_none h⟩
  · have hi' : i < s.ac.length := by simpa [SP.acts] using hi
    refine .inr ⟨i, hi', rfl, find_at _ _ i hi' (by simpa [SP.acts] using e) fun j hj hji => ?_⟩
    have := hlo j (by simpa [SP.acts] using hj) hji
    simpa [SP.acts] using this
end Go.Proofs.Ytckjafmnaffggaa

namespace Go.Proofs.Ytckjafmnaffggaa
open Go.RowKit Go.Sort

set_option maxHeartbeats 4000000 in
set_option maxRecDepth 1000000 in
theorem mfits_any (s : SP) (v : Value) (q : Q6) (w : World) (hl : s.ac.length ≤ 281474976710656) (hla : ∀ j (h : j < s.ac.length), SmallA s.ac[j]) (hs : IsS w v s) :
    Calls Try.prog 24 #[v, q.val] w fun e w' => e = .returned (.int .i64 (fitsC s q)) ∧ Below w.heap.size w w' := by
  obtain ⟨ko, kc, ao, ac, rfl, _, ha⟩ := hs.ex
  obtain ⟨pt, pi, at_, ai, rt, ri⟩ := q
  unfold Q6.val
  simp only
  have B := blw2 w (.cells #[.slice ko s.ks.length kc, .slice ao s.ac.length ac] 25) (.cells #[.string pt, .string pi, .string at_, .string ai, .string rt, .string ri] 58)
  have hs1 := hs.below B
  have C := placeOfAction_any s _ ai _ hl hs1
  have HA := hide (ha.below B)
  have c1 : ((w.alloc (.cells #[.slice ko s.ks.length kc, .slice ao s.ac.length ac] 25)).alloc (.cells #[.string pt, .string pi, .string at_, .string ai, .string rt, .string ri] 58)).cell? ⟨w.heap.size, 1, none⟩ = some (.slice ao s.ac.length ac) := by simp
  have q0 : ((w.alloc (.cells #[.slice ko s.ks.length kc, .slice ao s.ac.length ac] 25)).alloc (.cells #[.string pt, .string pi, .string at_, .string ai, .string rt, .string ri] 58)).cell? ⟨w.heap.size + 1, 0, none⟩ = some (.string pt) := by simp
  have q2 : ((w.alloc (.cells #[.slice ko s.ks.length kc, .slice ao s.ac.length ac] 25)).alloc (.cells #[.string pt, .string pi, .string at_, .string ai, .string rt, .string ri] 58)).cell? ⟨w.heap.size + 1, 2, none⟩ = some (.string at_) := by simp
  have q4 : ((w.alloc (.cells #[.slice ko s.ks.length kc, .slice ao s.ac.length ac] 25)).alloc (.cells #[.string pt, .string pi, .string at_, .string ai, .string rt, .string ri] 58)).cell? ⟨w.heap.size + 1, 4, none⟩ = some (.string rt) := by simp
  have z2 : ((w.alloc (.cells #[.slice ko s.ks.length kc, .slice ao s.ac.length ac] 25)).alloc (.cells #[.string pt, .string pi, .string at_, .string ai, .string rt, .string ri] 58)).heap.size = w.heap.size + 2 := by simp
  obtain ⟨KC, hKC⟩ : ∃ z, z = fitsC s ⟨pt, pi, at_, ai, rt, ri⟩ := ⟨_, rfl⟩
  rw [← hKC]
  have HE := hide (hKC.trans rfl : KC = if at_ = sAction then (match actOf s ai with | none => 15 | some a => if noneB a.pr pt || noneB a.re rt then 16 else 0) else 15)
  clear hs hs1 ha hKC
  go_enter Try.func24, Try.ntmps24
  go_wp2_with fail
  generalize (w.alloc _).alloc _ = w2 at *
  refine C.mono ?_
  rintro e w3 ⟨z, rfl, hz, b3⟩
  clear C
  have B3 := B.trans (b3.mono B.size)
  have c1' := (b3.cell (p := ⟨w.heap.size, 1, none⟩) (by show w.heap.size < _; omega)).trans c1
  have q0' := (b3.cell (p := ⟨w.heap.size + 1, 0, none⟩) (by show w.heap.size + 1 < _; omega)).trans q0
  have q2' := (b3.cell (p := ⟨w.heap.size + 1, 2, none⟩) (by show w.heap.size + 1 < _; omega)).trans q2
  have q4' := (b3.cell (p := ⟨w.heap.size + 1, 4, none⟩) (by show w.heap.size + 1 < _; omega)).trans q4
  have Hz := hide (actOf_place hz)
  have z3 := b3.size
  clear hz c1 q0 q2 q4
  by_cases hat : at_ = ⟨#[65, 99, 116, 105, 111, 110]⟩
  case neg =>
    have hb : (at_.toList == [65, 99, 116, 105, 111, 110]) = false := lit_ne (by decide) hat
    have HE := hide ((unhide HE).trans (if_neg hat))
    clear hat
    go_wp2
    go_ret
    exact ⟨by rw [unhide HE]; rfl, B3⟩
  subst hat
  have HE := hide ((unhide HE).trans (if_pos rfl))
  rcases unhide Hz with ⟨hneg, hn⟩ | ⟨i, hi, rfl, hn⟩
  · have HE := hide ((unhide HE).trans (by rw [hn]))
    clear hn Hz
    go_wp2
    go_ret
    exact ⟨by rw [unhide HE]; rfl, B3⟩
  have HE := hide ((unhide HE).trans (by rw [hn]))
  clear hn Hz
  have i0 : (0 : Int) ≤ (i : Int) := by omega
  have i0' : ¬ (i : Int) < 0 := by omega
  have i1 : (i : Int) < (s.ac.length : Int) := by omega
  obtain ⟨x, g, off, rfl, hg, hx, hk⟩ := (unhide HA).get b3 hi
  have hsm := hla i hi
  obtain ⟨a, hae⟩ : ∃ a, a = s.ac[i] := ⟨_, rfl⟩
  rw [← hae] at HE hk hsm
  clear hae
  obtain ⟨xn, xao, xal, xac, xbo, xbl, xbc⟩ := x
  obtain ⟨k1, k2, k3, k4, k5⟩ := hk
  simp only at k1 k2 k3 k4 k5
  subst k1 k2 k4
  obtain ⟨a0, a1, a2⟩ := hx
  simp only at a0 a1 a2
  have b4 := blw1 w3 (.cells #[.string a.nm, .slice xao a.pr.length xac, .slice xbo a.re.length xbc] 44)
  have C1 := containsS_any a.pr pt xao xac (w3.alloc (.cells #[.string a.nm, .slice xao a.pr.length xac, .slice xbo a.re.length xbc] 44)) hsm.pr (k3.below b4)
  have C2 := fun w' (hb : Below (w3.alloc (.cells #[.string a.nm, .slice xao a.pr.length xac, .slice xbo a.re.length xbc] 44)).heap.size (w3.alloc (.cells #[.string a.nm, .slice xao a.pr.length xac, .slice xbo a.re.length xbc] 44)) w') => containsS_any a.re rt xbo xbc w' hsm.re ((k5.below b4).below hb)
  have z4 : (w3.alloc (.cells #[.string a.nm, .slice xao a.pr.length xac, .slice xbo a.re.length xbc] 44)).heap.size = w3.heap.size + 1 := by simp
  have x2 : (w3.alloc (.cells #[.string a.nm, .slice xao a.pr.length xac, .slice xbo a.re.length xbc] 44)).cell? ⟨w3.heap.size, 2, none⟩ = some (.slice xbo a.re.length xbc) := by simp
  have q0'' := (b4.cell (p := ⟨w.heap.size + 1, 0, none⟩) (by show w.heap.size + 1 < _; omega)).trans q0'
  have q4'' := (b4.cell (p := ⟨w.heap.size + 1, 4, none⟩) (by show w.heap.size + 1 < _; omega)).trans q4'
  have B4 := B3.trans (b4.mono B3.size)
  have HE := hide (unhide HE : KC = if noneB a.pr pt || noneB a.re rt then 16 else 0)
  generalize noneB a.pr pt = y1 at *
  generalize noneB a.re rt = y2 at *
  clear k3 k5 hsm
  go_wp2_with fail
  generalize w3.alloc _ = w4 at *
  refine C1.mono ?_
  rintro e w5 ⟨rfl, b5⟩
  clear C1
  have B5 := B4.trans (b5.mono B4.size)
  cases y1
  case true =>
    clear C2
    go_wp2
    go_ret
    exact ⟨by rw [unhide HE]; simp, B5⟩
  have C2 := C2 w5 b5
  have x2' := (b5.cell (p := ⟨w3.heap.size, 2, none⟩) (by show w3.heap.size < _; omega)).trans x2
  have q4''' := (b5.cell (p := ⟨w.heap.size + 1, 4, none⟩) (by show w.heap.size + 1 < _; omega)).trans q4''
  go_wp2_with fail
  refine C2.mono ?_
  rintro e w6 ⟨rfl, b6⟩
  clear C2
  have B6 := B5.trans (b6.mono B5.size)
  cases y2
  · go_wp2
    go_ret
    exact ⟨by rw [unhide HE]; simp, B6⟩
  · go_wp2
    go_ret
    exact ⟨by rw [unhide HE]; simp, B6⟩
end Go.Proofs.Ytckjafmnaffggaa
