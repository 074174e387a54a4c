/-
  ents.Same of any two entities.
-/
import Derived.Test.YtnbbimcooilmdaaGreatEsA
import Derived.Test.YtnbbimcooilmdaaGreatGdU
import Derived.Test.YtnbbimcooilmdaaGreatValX
namespace Go.Proofs.YtnbbimcooilmdaaGreat
open Go.RowKit Go.Sort

/-- Two rows held against one another, element by element. -/
def eqN (n m : Nat) (F : Nat → Bool) : Bool := decide (n = m) && (List.range n).all F
theorem eqN_len {n m : Nat} {F : Nat → Bool} (h : n ≠ m) : eqN n m F = false := by
  unfold eqN
  rw [decide_eq_false h]
  rfl
theorem eqN_all {n : Nat} {F : Nat → Bool} (h : ∀ j, j < n → F j = true) : eqN n n F = true := by
  unfold eqN
  rw [decide_eq_true rfl, Bool.true_and, List.all_eq_true]
  exact fun j hj => h j (List.mem_range.1 hj)
theorem eqN_not {n : Nat} {F : Nat → Bool} {j : Nat} (hj : j < n) (h : F j = false) : eqN n n F = false := by
  unfold eqN
  rw [decide_eq_true rfl, Bool.true_and]
  rw [← Bool.not_eq_true]
  intro ha
  have := List.all_eq_true.1 ha j (List.mem_range.2 hj)
  rw [h] at this
  cases this
theorem eqN_congr {n m : Nat} {F G : Nat → Bool} (h : ∀ j, j < n → F j = G j) : eqN n m F = eqN n m G := by
  unfold eqN
  congr 1
  rw [Bool.eq_iff_iff, List.all_eq_true, List.all_eq_true]
  exact ⟨fun a j hj => by rw [← h j (List.mem_range.1 hj)]; exact a j hj, fun a j hj => by rw [h j (List.mem_range.1 hj)]; exact a j hj⟩
theorem eqN_list {α : Type} [DecidableEq α] (l m : List α) : decide (l = m) = eqN l.length m.length (fun j => decide (l[j]? = m[j]?)) := by
  by_cases h : l = m
  · subst h
    rw [decide_eq_true rfl, eqN_all (fun j _ => decide_eq_true rfl)]
  · rw [decide_eq_false h]
    by_cases hl : l.length = m.length
    · rw [← hl]
      have : ∃ j, j < l.length ∧ l[j]? ≠ m[j]? := Classical.byContradiction fun hc => h (List.ext_getElem? fun j => by
        rcases Nat.lt_or_ge j l.length with hj | hj
        · exact Classical.byContradiction fun hn => hc ⟨j, hj, hn⟩
        · rw [List.getElem?_eq_none hj, List.getElem?_eq_none (by omega)])
      obtain ⟨j, hj, hn⟩ := this
      rw [eqN_not hj (decide_eq_false hn)]
    · rw [eqN_len hl]

set_option maxHeartbeats 2000000 in
set_option maxRecDepth 1000000 in
theorem EqValue_any (l l' : List R7) (ao ao' : Option Addr) (c c' : Nat) (w : World) (hl : l.length ≤ 1048576) (hr : RowG w ao 7 (l.map R7.cells)) (hr' : RowG w ao' 7 (l'.map R7.cells))
    (F : Nat → Bool) (S : ∀ j (h : j < l.length) (h' : j < l'.length) w', Below w.heap.size w w' → Calls Tryz.prog 55 #[l[j].val, l'[j].val] w' fun e w'' => e = .returned (.bool (F j)) ∧ Below w'.heap.size w' w'') :
    Calls Tryz.prog 65 #[.slice ao l.length c, .slice ao' l'.length c', .func (.func 55) #[] #[]] w fun e w' => e = .returned (.bool (eqN l.length l'.length F)) ∧ Below w.heap.size w w' := by
  have HS := hide S
  by_cases he : l'.length = l.length
  case neg =>
    have e1 : ((l.length : Int) == (l'.length : Int)) = false := by
      rw [beq_eq_false_iff_ne]
      omega
    rw [eqN_len (fun h => he h.symm)]
    clear S
    go_enter Tryz.func65, Tryz.ntmps65
    go_wp2
    go_ret
    exact ⟨rfl, Below.refl _ _⟩
  have HE := hide he
  rw [he]
  have HV := hide (show ∀ j, j < l.length → F j = false → eqN l.length l.length F = false from fun j h1 h2 => eqN_not h1 h2)
  have HW := hide (show (∀ j, j < l.length → F j = true) → eqN l.length l.length F = true from eqN_all)
  generalize eqN l.length l.length F = z at *
  clear S he
  go_enter Tryz.func65, Tryz.ntmps65
  go_wp2
  go_loopw [17] (fun iv wr => ∃ i : Nat, iv = .int .i64 i ∧ i ≤ l.length ∧ Below w.heap.size w wr ∧ ∀ k, k < i → F k = true) (fun iv _ => l.length - (intOf iv).toNat)
  case atStart => exact ⟨0, by go_num, Nat.zero_le _, Below.refl _ _, fun k h => absurd h (Nat.not_lt_zero _)⟩
  case round =>
    obtain ⟨j, rfl, hj, hbw, hlow⟩ := hrel
    have Hlow := hide hlow
    clear hlow
    by_cases hlt : j < l.length
    · have i1 : (j : Int) < (l.length : Int) := by omega
      have hlt' : j < l'.length := by rw [unhide HE]; exact hlt
      obtain ⟨b, off, rfl, hb, hcx⟩ := rowG_at hr hbw hlt
      obtain ⟨b', off', rfl, hb', hcy⟩ := rowG_at hr' hbw hlt'
      have A : At7 wr b (off + j * 7) l[j] := (by have h := hcx; exact ⟨h 0 _ rfl, h 1 _ rfl, h 2 _ rfl, h 3 _ rfl, h 4 _ rfl, h 5 _ rfl, h 6 _ rfl⟩)
      have B : At7 wr b' (off' + j * 7) l'[j] := (by have h := hcy; exact ⟨h 0 _ rfl, h 1 _ rfl, h 2 _ rfl, h 3 _ rfl, h 4 _ rfl, h 5 _ rfl, h 6 _ rfl⟩)
      have SJ := unhide HS j hlt hlt'
      have HF := hide (show ∀ b, b = F j → (b = true → F j = true) ∧ (b = false → z = false) from fun b hb => ⟨fun h => by rw [← hb]; exact h, fun h => unhide HV j hlt (by rw [← hb]; exact h)⟩)
      obtain ⟨fb, hfb⟩ : ∃ fb, fb = F j := ⟨_, rfl⟩
      have HF2 := hide (unhide HF fb hfb)
      rw [← hfb] at SJ
      clear hfb HF
      obtain ⟨x, hx⟩ : ∃ x, x = l[j] := ⟨_, rfl⟩
      obtain ⟨y, hy⟩ : ∃ y, y = l'[j] := ⟨_, rfl⟩
      rw [← hx] at A SJ
      rw [← hy] at B SJ
      clear hx hy hcx hcy
      unfold R7.val at SJ
      have b1 := below1 wr (.cells #[.int .i64 x.k, .bool x.b, .int .i64 x.n, .string x.s, .string x.t, .string x.i, .slice x.lo x.ll x.lc] 52)
      have B1 := B.below b1 (Nat.lt_of_lt_of_le hb' hbw.size)
      have b2 := below1 (wr.alloc (.cells #[.int .i64 x.k, .bool x.b, .int .i64 x.n, .string x.s, .string x.t, .string x.i, .slice x.lo x.ll x.lc] 52)) (.cells #[.int .i64 y.k, .bool y.b, .int .i64 y.n, .string y.s, .string y.t, .string y.i, .slice y.lo y.ll y.lc] 52)
      have b02 := (hbw.trans (b1.mono hbw.size)).trans (b2.mono (hbw.trans (b1.mono hbw.size)).size)
      have SC := SJ _ b02
      obtain ⟨a0, a1, a2, a3, a4, a5, a6⟩ := A
      obtain ⟨d0, d1, d2, d3, d4, d5, d6⟩ := B1
      clear SJ B
      go_wp2_with fail
      clear a0 a1 a2 a3 a4 a5 a6 d0 d1 d2 d3 d4 d5 d6
      generalize (wr.alloc _).alloc _ = w2 at *
      refine SC.mono ?_
      rintro e w3 ⟨rfl, b3⟩
      have b03 := b02.trans (b3.mono b02.size)
      cases fb
      · have hz := (unhide HF2).2 rfl
        subst hz
        go_wp2
        go_ret
        exact ⟨rfl, b03⟩
      · have HFj := hide ((unhide HF2).1 rfl)
        clear HF2
        go_wp2
        go_roundw
        case rel =>
          refine ⟨j + 1, by go_num, by omega, b03, fun k hk => ?_⟩
          by_cases hkj : k < j
          · exact unhide Hlow k hkj
          · obtain rfl : k = j := by omega
            exact unhide HFj
        case measure =>
          simp only [intOf]
          omega
    · have i1 : ¬ (j : Int) < (l.length : Int) := by omega
      have hz := unhide HW (fun k hk => unhide Hlow k (by omega))
      subst hz
      go_wp2
      go_ret
      exact ⟨rfl, hbw⟩

/-- The fields, their lists aside. -/
def FlatR (r r' : R7) : Prop := r.k = r'.k ∧ r.b = r'.b ∧ r.n = r'.n ∧ r.s = r'.s ∧ r.t = r'.t ∧ r.i = r'.i
set_option maxHeartbeats 2000000 in
set_option maxRecDepth 1000000 in
theorem sameValue_unlike (R R' : R7) (w : World) (h : ¬ FlatR R R') :
    Calls Tryz.prog 55 #[R.val, R'.val] w fun e w' => e = .returned (.bool false) ∧ Below w.heap.size w w' := by
  obtain ⟨k, b, n, s, t, i, lo, ll, lc⟩ := R
  obtain ⟨k', b', n', s', t', i', lo', ll', lc'⟩ := R'
  unfold R7.val
  simp only
  by_cases hk : k = k'
  case neg =>
    have hq : (k == k') = false := by simpa using hk
    clear h
    go_enter Tryz.func55, Tryz.ntmps55
    go_wp2
    go_ret
    exact ⟨rfl, below2 _ _ _⟩
  subst hk
  by_cases hb : b = b'
  case neg =>
    have hq : (b == b') = false := by simpa using hb
    clear h
    go_enter Tryz.func55, Tryz.ntmps55
    go_wp2
    go_ret
    exact ⟨rfl, below2 _ _ _⟩
  subst hb
  by_cases hn : n = n'
  case neg =>
    have hq : (n == n') = false := by simpa using hn
    clear h
    go_enter Tryz.func55, Tryz.ntmps55
    go_wp2
    go_ret
    exact ⟨rfl, below2 _ _ _⟩
  subst hn
  by_cases hs : s = s'
  case neg =>
    have hq : (s.toList == s'.toList) = false := bytes_ne hs
    have h1 : ¬ s.toList = s'.toList := fun e => hs ((toList_ba s s').1 e)
    clear h
    go_enter Tryz.func55, Tryz.ntmps55
    go_wp2
    go_ret
    exact ⟨rfl, below2 _ _ _⟩
  subst hs
  by_cases ht : t = t'
  case neg =>
    have hq : (t.toList == t'.toList) = false := bytes_ne ht
    have h1 : ¬ t.toList = t'.toList := fun e => ht ((toList_ba t t').1 e)
    clear h
    go_enter Tryz.func55, Tryz.ntmps55
    go_wp2
    go_ret
    exact ⟨rfl, below2 _ _ _⟩
  subst ht
  by_cases hi : i = i'
  case neg =>
    have hq : (i.toList == i'.toList) = false := bytes_ne hi
    have h1 : ¬ i.toList = i'.toList := fun e => hi ((toList_ba i i').1 e)
    clear h
    go_enter Tryz.func55, Tryz.ntmps55
    go_wp2
    go_ret
    exact ⟨rfl, below2 _ _ _⟩
  subst hi
  exact absurd ⟨rfl, rfl, rfl, rfl, rfl, rfl⟩ h
set_option maxHeartbeats 2000000 in
set_option maxRecDepth 1000000 in
theorem sameValue_like (R R' : R7) (l m : List PV) (w : World) (ha : FlatR R R') (hll : R.ll = l.length) (hmm : R'.ll = m.length) (hl : l.length ≤ 1048576) (hr : RowV w R.lo (l.map ofP)) (hr' : RowV w R'.lo (m.map ofP)) (F : Nat → Bool)
    (IH : ∀ j (h : j < l.length) (h' : j < m.length), ∀ w', Calls Tryz.prog 55 #[(ofP l[j]).val, (ofP m[j]).val] w' fun e w'' => e = .returned (.bool (F j)) ∧ Below w'.heap.size w' w'') :
    Calls Tryz.prog 55 #[R.val, R'.val] w fun e w' => e = .returned (.bool (eqN l.length m.length F)) ∧ Below w.heap.size w w' := by
  obtain ⟨rk, rb, rn, rs, rt, ri, rlo, n, rlc⟩ := R
  obtain ⟨rk', rb', rn', rs', rt', ri', rlo', n', rlc'⟩ := R'
  obtain ⟨h1, h2, h3, h4, h5, h6⟩ := ha
  simp only at h1 h2 h3 h4 h5 h6 hll hmm hr hr'
  subst h1 h2 h3 h4 h5 h6
  have b2 := below2 w (.cells #[.int .i64 rk, .bool rb, .int .i64 rn, .string rs, .string rt, .string ri, .slice rlo n rlc] 52) (.cells #[.int .i64 rk, .bool rb, .int .i64 rn, .string rs, .string rt, .string ri, .slice rlo' n' rlc'] 52)
  have EQ := EqValue_any (l.map ofP) (m.map ofP) rlo rlo' rlc rlc' _ (by simpa using hl) ((rowG_V.1 hr).below b2) ((rowG_V.1 hr').below b2) F (fun j h h' w' _ => by
    rw [List.getElem_map, List.getElem_map]
    exact IH j (by simpa using h) (by simpa using h') w')
  rw [List.length_map, List.length_map, ← hll, ← hmm] at EQ
  rw [← hll, ← hmm]
  generalize eqN n n' F = z at *
  clear hr hr' IH hll hmm hl
  unfold R7.val
  simp only
  go_enter Tryz.func55, Tryz.ntmps55
  go_wp2_with fail
  generalize (w.alloc _).alloc _ = w2 at *
  refine EQ.mono ?_
  rintro e w3 ⟨rfl, b3⟩
  go_wp2
  go_ret
  exact ⟨rfl, b2.trans (b3.mono b2.size)⟩
theorem ofP_inj {p q : PV} (h : FlatR (ofP p) (ofP q)) : p = q := by
  obtain ⟨h1, h2, h3, h4, h5, h6⟩ := h
  cases p <;> cases q <;> simp_all [ofP, ba]
theorem sameValue_plains (p q : PV) (w : World) : Calls Tryz.prog 55 #[(ofP p).val, (ofP q).val] w fun e w' => e = .returned (.bool (decide (p = q))) ∧ Below w.heap.size w w' := by
  by_cases h : p = q
  · subst h
    rw [decide_eq_true rfl]
    exact sameValue_plain p w
  · rw [decide_eq_false h]
    exact sameValue_unlike _ _ w fun hf => h (ofP_inj hf)
def sameGV : GV → GV → Bool
  | .pl p, .pl q => decide (p = q)
  | .set l, .set m => decide (l = m)
  | _, _ => false
theorem sameGV_self (g : GV) : sameGV g g = true := by cases g <;> simp [sameGV]
theorem sameValue_any (G G' : GV) (R R' : R7) (w : World) (h : IsG w G R) (h' : IsG w G' R') (hl : G.len ≤ 1048576) :
    Calls Tryz.prog 55 #[R.val, R'.val] w fun e w' => e = .returned (.bool (sameGV G G')) ∧ Below w.heap.size w w' := by
  cases G with
  | pl p =>
    obtain rfl : R = ofP p := h
    cases G' with
    | pl q =>
      obtain rfl : R' = ofP q := h'
      exact sameValue_plains p q w
    | set m =>
      obtain ⟨ao', c', rfl, hr', _⟩ := h'
      exact sameValue_unlike _ _ w fun hf => by
        have h1 : (ofP p).k = 5 := hf.1
        cases p <;> simp [ofP] at h1
  | set l =>
    obtain ⟨ao, c, rfl, hr, _⟩ := h
    cases G' with
    | pl q =>
      obtain rfl : R' = ofP q := h'
      exact sameValue_unlike _ _ w fun hf => by
        have h1 : 5 = (ofP q).k := hf.1
        cases q <;> simp [ofP] at h1
    | set m =>
      obtain ⟨ao', c', rfl, hr', _⟩ := h'
      have e : sameGV (.set l) (.set m) = eqN l.length m.length (fun j => decide (l[j]? = m[j]?)) := eqN_list l m
      rw [e]
      refine sameValue_like (setR ao l.length c) (setR ao' m.length c') l m w ⟨rfl, rfl, rfl, rfl, rfl, rfl⟩ rfl rfl hl hr hr' _ (fun j h1 h2 w' => ?_)
      have e2 : decide (l[j]? = m[j]?) = decide (l[j] = m[j]) := by rw [List.getElem?_eq_getElem h1, List.getElem?_eq_getElem h2]; simp
      rw [e2]
      exact sameValue_plains _ _ w'

set_option maxHeartbeats 2000000 in
set_option maxRecDepth 1000000 in
theorem EqAttr_any (l l' : List A8) (ao ao' : Option Addr) (c c' : Nat) (w : World) (hl : l.length ≤ 1048576) (hr : RowG w ao 8 (l.map A8.cells)) (hr' : RowG w ao' 8 (l'.map A8.cells))
    (F : Nat → Bool) (S : ∀ j (h : j < l.length) (h' : j < l'.length) w', Below w.heap.size w w' → Calls Tryz.prog 35 #[l[j].val, l'[j].val] w' fun e w'' => e = .returned (.bool (F j)) ∧ Below w'.heap.size w' w'') :
    Calls Tryz.prog 34 #[.slice ao l.length c, .slice ao' l'.length c', .func (.func 35) #[] #[]] w fun e w' => e = .returned (.bool (eqN l.length l'.length F)) ∧ Below w.heap.size w w' := by
  have HS := hide S
  by_cases he : l'.length = l.length
  case neg =>
    have e1 : ((l.length : Int) == (l'.length : Int)) = false := by
      rw [beq_eq_false_iff_ne]
      omega
    rw [eqN_len (fun h => he h.symm)]
    clear S
    go_enter Tryz.func34, Tryz.ntmps34
    go_wp2
    go_ret
    exact ⟨rfl, Below.refl _ _⟩
  have HE := hide he
  rw [he]
  have HV := hide (show ∀ j, j < l.length → F j = false → eqN l.length l.length F = false from fun j h1 h2 => eqN_not h1 h2)
  have HW := hide (show (∀ j, j < l.length → F j = true) → eqN l.length l.length F = true from eqN_all)
  generalize eqN l.length l.length F = z at *
  clear S he
  go_enter Tryz.func34, Tryz.ntmps34
  go_wp2
  go_loopw [17] (fun iv wr => ∃ i : Nat, iv = .int .i64 i ∧ i ≤ l.length ∧ Below w.heap.size w wr ∧ ∀ k, k < i → F k = true) (fun iv _ => l.length - (intOf iv).toNat)
  case atStart => exact ⟨0, by go_num, Nat.zero_le _, Below.refl _ _, fun k h => absurd h (Nat.not_lt_zero _)⟩
  case round =>
    obtain ⟨j, rfl, hj, hbw, hlow⟩ := hrel
    have Hlow := hide hlow
    clear hlow
    by_cases hlt : j < l.length
    · have i1 : (j : Int) < (l.length : Int) := by omega
      have hlt' : j < l'.length := by rw [unhide HE]; exact hlt
      obtain ⟨b, off, rfl, hb, hcx⟩ := rowG_at hr hbw hlt
      obtain ⟨b', off', rfl, hb', hcy⟩ := rowG_at hr' hbw hlt'
      have A : AtE8 wr b (off + j * 8) l[j] := AtE8.of hcx
      have B : AtE8 wr b' (off' + j * 8) l'[j] := AtE8.of hcy
      have SJ := unhide HS j hlt hlt'
      have HF := hide (show ∀ b, b = F j → (b = true → F j = true) ∧ (b = false → z = false) from fun b hb => ⟨fun h => by rw [← hb]; exact h, fun h => unhide HV j hlt (by rw [← hb]; exact h)⟩)
      obtain ⟨fb, hfb⟩ : ∃ fb, fb = F j := ⟨_, rfl⟩
      have HF2 := hide (unhide HF fb hfb)
      rw [← hfb] at SJ
      clear hfb HF
      obtain ⟨x, hx⟩ : ∃ x, x = l[j] := ⟨_, rfl⟩
      obtain ⟨y, hy⟩ : ∃ y, y = l'[j] := ⟨_, rfl⟩
      rw [← hx] at A SJ
      rw [← hy] at B SJ
      clear hx hy hcx hcy
      unfold A8.val at SJ
      have b1 := below1 wr (.cells #[.string x.nm, .int .i64 x.v.k, .bool x.v.b, .int .i64 x.v.n, .string x.v.s, .string x.v.t, .string x.v.i, .slice x.v.lo x.v.ll x.v.lc] 56)
      have B1 := B.below b1 (Nat.lt_of_lt_of_le hb' hbw.size)
      have b2 := below1 (wr.alloc (.cells #[.string x.nm, .int .i64 x.v.k, .bool x.v.b, .int .i64 x.v.n, .string x.v.s, .string x.v.t, .string x.v.i, .slice x.v.lo x.v.ll x.v.lc] 56)) (.cells #[.string y.nm, .int .i64 y.v.k, .bool y.v.b, .int .i64 y.v.n, .string y.v.s, .string y.v.t, .string y.v.i, .slice y.v.lo y.v.ll y.v.lc] 56)
      have b02 := (hbw.trans (b1.mono hbw.size)).trans (b2.mono (hbw.trans (b1.mono hbw.size)).size)
      have SC := SJ _ b02
      obtain ⟨a0, a1, a2, a3, a4, a5, a6, a7⟩ := A
      obtain ⟨d0, d1, d2, d3, d4, d5, d6, d7⟩ := B1
      clear SJ B
      go_wp2_with fail
      clear a0 a1 a2 a3 a4 a5 a6 a7 d0 d1 d2 d3 d4 d5 d6 d7
      generalize (wr.alloc _).alloc _ = w2 at *
      refine SC.mono ?_
      rintro e w3 ⟨rfl, b3⟩
      have b03 := b02.trans (b3.mono b02.size)
      cases fb
      · have hz := (unhide HF2).2 rfl
        subst hz
        go_wp2
        go_ret
        exact ⟨rfl, b03⟩
      · have HFj := hide ((unhide HF2).1 rfl)
        clear HF2
        go_wp2
        go_roundw
        case rel =>
          refine ⟨j + 1, by go_num, by omega, b03, fun k hk => ?_⟩
          by_cases hkj : k < j
          · exact unhide Hlow k hkj
          · obtain rfl : k = j := by omega
            exact unhide HFj
        case measure =>
          simp only [intOf]
          omega
    · have i1 : ¬ (j : Int) < (l.length : Int) := by omega
      have hz := unhide HW (fun k hk => unhide Hlow k (by omega))
      subst hz
      go_wp2
      go_ret
      exact ⟨rfl, hbw⟩

def sameAt (a b : ByteArray × GV) : Bool := decide (a.1 = b.1) && sameGV a.2 b.2
set_option maxHeartbeats 2000000 in
set_option maxRecDepth 1000000 in
theorem sameAttr_any (a a' : A8) (g g' : ByteArray × GV) (w : World) (hn : a.nm = g.1) (hn' : a'.nm = g'.1) (h : IsG w g.2 a.v) (h' : IsG w g'.2 a'.v) (hl : g.2.len ≤ 1048576) :
    Calls Tryz.prog 35 #[a.val, a'.val] w fun e w' => e = .returned (.bool (sameAt g g')) ∧ Below w.heap.size w w' := by
  obtain ⟨nm, x⟩ := a
  obtain ⟨nm', y⟩ := a'
  obtain ⟨gn, gv⟩ := g
  obtain ⟨gn', gv'⟩ := g'
  simp only at hn hn' h h' hl
  subst hn hn'
  have b2 := below2 w (.cells #[.string nm, .int .i64 x.k, .bool x.b, .int .i64 x.n, .string x.s, .string x.t, .string x.i, .slice x.lo x.ll x.lc] 56) (.cells #[.string nm', .int .i64 y.k, .bool y.b, .int .i64 y.n, .string y.s, .string y.t, .string y.i, .slice y.lo y.ll y.lc] 56)
  by_cases hnn : nm = nm'
  · subst hnn
    have S := sameValue_any gv gv' x y _ (h.below b2) (h'.below b2) hl
    have e : sameAt (nm, gv) (nm, gv') = sameGV gv gv' := by simp [sameAt]
    rw [e]
    generalize sameGV gv gv' = z at *
    unfold R7.val at S
    unfold A8.val
    simp only
    clear h h' hl e
    go_enter Tryz.func35, Tryz.ntmps35
    go_wp2_with fail
    generalize (w.alloc _).alloc _ = w2 at *
    refine S.mono ?_
    rintro e w3 ⟨rfl, b3⟩
    go_wp2
    go_ret
    exact ⟨rfl, b2.trans (b3.mono b2.size)⟩
  · have e : sameAt (nm, gv) (nm', gv') = false := by simp [sameAt, hnn]
    rw [e]
    have hq : (nm.toList == nm'.toList) = false := bytes_ne hnn
    unfold A8.val
    simp only
    clear h h' hl e hnn
    go_enter Tryz.func35, Tryz.ntmps35
    go_wp2
    go_ret
    exact ⟨rfl, b2⟩

set_option maxHeartbeats 2000000 in
set_option maxRecDepth 1000000 in
theorem EqUid_any (l l' : List U2) (ao ao' : Option Addr) (c c' : Nat) (w : World) (hl : l.length ≤ 1048576) (hr : RowG w ao 2 (l.map U2.cells)) (hr' : RowG w ao' 2 (l'.map U2.cells)) :
    Calls Tryz.prog 33 #[.slice ao l.length c, .slice ao' l'.length c'] w fun e w' => e = .returned (.bool (decide (l = l'))) ∧ Below w.heap.size w w' := by
  by_cases he : l'.length = l.length
  case neg =>
    have e1 : ((l.length : Int) == (l'.length : Int)) = false := by
      rw [beq_eq_false_iff_ne]
      omega
    rw [decide_eq_false (fun h => he (by rw [h]))]
    go_enter Tryz.func33, Tryz.ntmps33
    go_wp2
    go_ret
    exact ⟨rfl, Below.refl _ _⟩
  have HE := hide he
  rw [he]
  have HV := hide (show ∀ j (h : j < l.length) (h' : j < l'.length), l[j] ≠ l'[j] → decide (l = l') = false from fun j h h' hn => decide_eq_false fun e => hn (by subst e; rfl))
  have HW := hide (show (∀ j (h : j < l.length) (h' : j < l'.length), l[j] = l'[j]) → decide (l = l') = true from fun h => decide_eq_true (List.ext_getElem he.symm h))
  generalize decide (l = l') = z at *
  clear he
  go_enter Tryz.func33, Tryz.ntmps33
  go_wp2
  go_loopw [13] (fun iv wr => ∃ i : Nat, iv = .int .i64 i ∧ i ≤ l.length ∧ Below w.heap.size w wr ∧ ∀ k (h : k < l.length) (h' : k < l'.length), k < i → l[k] = l'[k]) (fun iv _ => l.length - (intOf iv).toNat)
  case atStart => exact ⟨0, by go_num, Nat.zero_le _, Below.refl _ _, fun k _ _ h => absurd h (Nat.not_lt_zero _)⟩
  case round =>
    obtain ⟨j, rfl, hj, hbw, hlow⟩ := hrel
    have Hlow := hide hlow
    clear hlow
    by_cases hlt : j < l.length
    · have i1 : (j : Int) < (l.length : Int) := by omega
      have k0 : (0 : Int) ≤ (j : Int) := by omega
      have hlt' : j < l'.length := by rw [unhide HE]; exact hlt
      obtain ⟨b, off, rfl, hb, hcx⟩ := rowG_at hr hbw hlt
      obtain ⟨b', off', rfl, hb', hcy⟩ := rowG_at hr' hbw hlt'
      have A : AtE2 wr b (off + j * 2) l[j] := AtE2.of hcx
      have B : AtE2 wr b' (off' + j * 2) l'[j] := AtE2.of hcy
      have NQ := binNeqUid l[j] l'[j]
      have HZ := hide (show ∀ y, (!decide (l[j] = l'[j])) = y → (y = true → z = false) ∧ (y = false → l[j] = l'[j]) from fun y hy => ⟨fun h => unhide HV j hlt hlt' (by rw [← hy] at h; simpa using h), fun h => by rw [← hy] at h; simpa using h⟩)
      generalize hy : (!decide (l[j] = l'[j])) = y at NQ
      have HZ2 := hide (unhide HZ y hy)
      clear hy HZ
      obtain ⟨x, hx⟩ : ∃ x, x = l[j] := ⟨_, rfl⟩
      obtain ⟨x', hx'⟩ : ∃ x', x' = l'[j] := ⟨_, rfl⟩
      rw [← hx] at A NQ
      rw [← hx'] at B NQ
      clear hx hx' hcx hcy
      obtain ⟨a0, a1⟩ := A.up
      obtain ⟨d0, d1⟩ := B.up
      clear A B
      go_wp2_with fail
      refine wp_region_quiet_below (by kernel_rfl) (by kernel_rfl) ?_
      repeat (quiet_step (fail))
      refine wpQuiet_nil ?_
      intro _ hw'
      obtain ⟨⟨dq, osq⟩, hw''⟩ := hw'
      subst hw''
      have b3 := hbw.trans ((below_regrown wr dq osq).mono hbw.size)
      generalize grow (redrawn wr dq) osq = w3 at *
      clear a0 a1 d0 d1 NQ
      cases y
      · have HF := hide ((unhide HZ2).2 rfl)
        clear HZ2
        go_wp2
        go_roundw
        case rel =>
          refine ⟨j + 1, by go_num, by omega, b3, fun k h h' hk => ?_⟩
          by_cases hkj : k < j
          · exact unhide Hlow k h h' hkj
          · obtain rfl : k = j := by omega
            exact unhide HF
        case measure =>
          simp only [intOf]
          omega
      · have hz := (unhide HZ2).1 rfl
        subst hz
        go_wp2
        go_ret
        exact ⟨rfl, b3⟩
    · have i1 : ¬ (j : Int) < (l.length : Int) := by omega
      have hz := unhide HW (fun k h h' => unhide Hlow k h h' (by omega))
      subst hz
      go_wp2
      go_ret
      exact ⟨rfl, hbw⟩

def sameAts (l m : List (ByteArray × GV)) : Bool := eqN l.length m.length fun j => match l[j]?, m[j]? with
  | some a, some b => sameAt a b
  | _, _ => false
def sameEP (p q : EntP) : Bool := decide (p.u = q.u) && (decide (p.ps = q.ps) && sameAts p.ats q.ats)
theorem sameEP_self (p : EntP) : sameEP p p = true := by
  unfold sameEP sameAts
  rw [decide_eq_true rfl, decide_eq_true rfl, eqN_all]
  · rfl
  · intro j hj
    rw [List.getElem?_eq_getElem hj]
    show sameAt _ _ = true
    unfold sameAt
    rw [decide_eq_true rfl, sameGV_self]
    rfl
theorem EqAttrG {w : World} {P P' : Nat → Nat → Prop} {rs rs' : List A8} {l l' : List (ByteArray × GV)} {ao ao' : Option Addr} (c c' : Nat) (h : IsAs w P rs l) (h' : IsAs w P' rs' l') (hr : RowG w ao 8 (rs.map A8.cells)) (hr' : RowG w ao' 8 (rs'.map A8.cells)) (hl : l.length ≤ 1048576) (hf : ∀ a ∈ l, a.2.len ≤ 1048576) :
    Calls Tryz.prog 34 #[.slice ao rs.length c, .slice ao' rs'.length c', .func (.func 35) #[] #[]] w fun e w' => e = .returned (.bool (sameAts l l')) ∧ Below w.heap.size w w' := by
  unfold sameAts
  rw [← h.1, ← h'.1]
  refine EqAttr_any rs rs' ao ao' c c' w (by rw [h.1]; exact hl) hr hr' _ (fun j h1 h2 w' hb => ?_)
  have k1 : j < l.length := by rw [← h.1]; exact h1
  have k2 : j < l'.length := by rw [← h'.1]; exact h2
  rw [List.getElem?_eq_getElem k1, List.getElem?_eq_getElem k2]
  exact sameAttr_any rs[j] rs'[j] l[j] l'[j] w' (h.2 j h1 k1).1 (h'.2 j h2 k2).1 (IsG.below (h.2 j h1 k1).2.1 hb) (IsG.below (h'.2 j h2 k2).2.1 hb) (hf _ (List.getElem_mem _))

set_option maxHeartbeats 4000000 in
set_option maxRecDepth 1000000 in
theorem esame_any (e e' : E4) (p q : EntP) (P P' : Nat → Prop) (w : World) (H : IsEnt w P e p) (H' : IsEnt w P' e' q) (hf : p.fits) :
    Calls Tryz.prog 16 #[e.val, e'.val] w fun x w' => x = .returned (.bool (sameEP p q)) ∧ Below w.heap.size w w' := by
  obtain ⟨et, ei, po, m, pc, ao, n, ac⟩ := e
  obtain ⟨et', ei', po', m', pc', ao', n', ac'⟩ := e'
  obtain ⟨rs, hal, hrA, _, hAs⟩ := H.ats
  obtain ⟨rs', hal', hrA', _, hAs'⟩ := H'.ats
  have hu : (⟨et, ei⟩ : U2) = p.u := H.u
  have hu' : (⟨et', ei'⟩ : U2) = q.u := H'.u
  have hpl : m = p.ps.length := H.pl
  have hpl' : m' = q.ps.length := H'.pl
  have hrU : RowG w po 2 (p.ps.map U2.cells) := H.rowU
  have hrU' : RowG w po' 2 (q.ps.map U2.cells) := H'.rowU
  simp only at hal hal' hrA hrA'
  clear H H'
  have b2 := below2 w (.cells #[.string et, .string ei, .slice po m pc, .slice ao n ac] 29) (.cells #[.string et', .string ei', .slice po' m' pc', .slice ao' n' ac'] 29)
  have EU := fun w' hb => EqUid_any p.ps q.ps po po' pc pc' w' hf.1 (hrU.below hb) (hrU'.below hb)
  have EA := fun w' (hb : Below w.heap.size w w') => EqAttrG ac ac' (hAs.turn hb.size (fun _ b hp hl => ⟨hb.block b hl, hp⟩)) (hAs'.turn hb.size (fun _ b hp hl => ⟨hb.block b hl, hp⟩)) (hrA.below hb) (hrA'.below hb) hf.2.1 hf.2.2
  rw [← hal, ← hal'] at EA
  rw [← hpl, ← hpl'] at EU
  have BQ := binEqlUid ⟨et, ei⟩ ⟨et', ei'⟩
  simp only at BQ
  rw [show decide ((⟨et, ei⟩ : U2) = ⟨et', ei'⟩) = decide (p.u = q.u) by rw [hu, hu']] at BQ
  have EU2 := EU _ b2
  have HS := hide (show sameEP p q = (decide (p.u = q.u) && (decide (p.ps = q.ps) && sameAts p.ats q.ats)) from rfl)
  generalize sameEP p q = z at *
  generalize decide (p.u = q.u) = z1 at *
  generalize decide (p.ps = q.ps) = z2 at *
  generalize sameAts p.ats q.ats = z3 at *
  clear hrU hrU' hrA hrA' hAs hAs' hal hal' hpl hpl' hf EU hu hu'
  unfold E4.val
  simp only
  cases z1
  · have hz : z = false := unhide HS
    subst hz
    go_enter Tryz.func16, Tryz.ntmps16
    go_wp2
    go_ret
    exact ⟨rfl, b2⟩
  have c2 : ((w.alloc (.cells #[.string et, .string ei, .slice po m pc, .slice ao n ac] 29)).alloc (.cells #[.string et', .string ei', .slice po' m' pc', .slice ao' n' ac'] 29)).cell? ⟨w.heap.size, 3, none⟩ = some (.slice ao n ac) := by simp
  have c3 : ((w.alloc (.cells #[.string et, .string ei, .slice po m pc, .slice ao n ac] 29)).alloc (.cells #[.string et', .string ei', .slice po' m' pc', .slice ao' n' ac'] 29)).cell? ⟨w.heap.size + 1, 3, none⟩ = some (.slice ao' n' ac') := by simp
  have z2s : ((w.alloc (.cells #[.string et, .string ei, .slice po m pc, .slice ao n ac] 29)).alloc (.cells #[.string et', .string ei', .slice po' m' pc', .slice ao' n' ac'] 29)).heap.size = w.heap.size + 2 := by simp
  go_enter Tryz.func16, Tryz.ntmps16
  go_wp2_with fail
  generalize (w.alloc _).alloc _ = w2 at *
  refine EU2.mono ?_
  rintro x w3 ⟨rfl, b3⟩
  have b03 := b2.trans (b3.mono b2.size)
  have d2 := (b3.cell (p := ⟨w.heap.size, 3, none⟩) (by show w.heap.size < _; omega)).trans c2
  have d3 := (b3.cell (p := ⟨w.heap.size + 1, 3, none⟩) (by show w.heap.size + 1 < _; omega)).trans c3
  clear c2 c3
  cases z2
  · have hz : z = false := unhide HS
    subst hz
    go_wp2
    go_ret
    exact ⟨rfl, b03⟩
  have EA3 := EA _ b03
  go_wp2_with fail
  refine EA3.mono ?_
  rintro x w4 ⟨rfl, b4⟩
  have hz : z = z3 := unhide HS
  subst hz
  go_wp2
  go_ret
  exact ⟨rfl, b03.trans (b4.mono b03.size)⟩
end Go.Proofs.YtnbbimcooilmdaaGreat
