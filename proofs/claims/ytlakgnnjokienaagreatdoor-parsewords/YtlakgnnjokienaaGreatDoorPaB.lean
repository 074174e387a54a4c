/-
  parse's reader: the next tokens.
-/
import Derived.Test.YtlakgnnjokienaaGreatDoorPaA
import Derived.Deep.Cut
namespace Go.Proofs.YtlakgnnjokienaaGreatDoor
open Go.RowKit

def hdS (st : St) (j : Nat) : Tok := match st with
  | none => tok0
  | some ts => hd ts j
def tokV (t : Tok) : Value := .agg #[.int .i64 t.k, .string ⟨t.s.toArray⟩, .int .i64 t.n, .int .i64 t.p]
def rp (rb : Nat) : Value := .pointer (some ⟨rb, 0, none⟩)

set_option maxHeartbeats 1000000 in
theorem peek_any (st : St) (w : World) (rb j : Nat) (h : RdAt w rb st) :
    Calls Tryz.prog 32 #[rp rb, .int .i64 j] w fun e w' => e = .returned (tokV (hdS st j)) ∧ Below w.heap.size w w' := by
  have hlt := h.lt
  have b1 := new1 w (.cells #[.int .i64 0, .string ⟨#[]⟩, .int .i64 0, .int .i64 0] 70)
  unfold rp
  by_cases hj : ∃ ts, st = some ts ∧ j < ts.length
  · obtain ⟨ts, rfl, hj⟩ := hj
    obtain ⟨ao, cap, h1, h2, h3, h4⟩ := h.1
    obtain ⟨c0, _, _⟩ := rd_cell h1
    obtain ⟨g, off, rfl, hg, hc⟩ := h4 j hj
    have e : hdS (some ts) j = ts[j] := by show ts.getD j tok0 = _; rw [List.getD_eq_getElem?_getD, List.getElem?_eq_getElem hj]; rfl
    rw [e]
    generalize ts[j] = t at hc
    obtain ⟨d0, d1, d2, d3⟩ := hc
    have i1 : (j : Int) < (ts.length : Int) := by omega
    have c0' := (b1.cell (p := ⟨rb, 0, none⟩) hlt).trans c0
    have hg : g < w.heap.size := by omega
    have d0' := (b1.cell (p := ⟨g, off + j * 4, none⟩) hg).trans d0
    have d1' := (b1.cell (p := ⟨g, off + j * 4 + 1, none⟩) hg).trans d1
    have d2' := (b1.cell (p := ⟨g, off + j * 4 + 2, none⟩) hg).trans d2
    have d3' := (b1.cell (p := ⟨g, off + j * 4 + 3, none⟩) hg).trans d3
    clear e c0 d0 d1 d2 d3
    go_enter Tryz.func32, Tryz.ntmps32
    go_wp2
    exact bodyPost_ret (v := .agg #[.int .i64 t.k, .string ⟨t.s.toArray⟩, .int .i64 t.n, .int .i64 t.p]) (by simp [results, Tryz.results32, go_sem]) rfl ⟨rfl, new1 _ _⟩
  · have e : hdS st j = tok0 := by
      cases st with
      | none => rfl
      | some ts =>
        show ts.getD j tok0 = _
        rw [List.getD_eq_getElem?_getD, List.getElem?_eq_none (by apply Nat.le_of_not_lt; intro hh; exact hj ⟨ts, rfl, hh⟩)]
        rfl
    obtain ⟨ao, n, cap, b, hb, hn⟩ : ∃ ao n cap b, w.heap[rb]? = some (rdObj ao n cap b) ∧ n ≤ j := by
      cases st with
      | none => exact ⟨none, 0, 0, true, h.1, Nat.zero_le _⟩
      | some ts =>
        obtain ⟨ao, cap, h1, _⟩ := h.1
        exact ⟨ao, _, cap, false, h1, by apply Nat.le_of_not_lt; intro hh; exact hj ⟨ts, rfl, hh⟩⟩
    rw [e]
    obtain ⟨c0, _, _⟩ := rd_cell hb
    have c0' := (b1.cell (p := ⟨rb, 0, none⟩) hlt).trans c0
    have i1 : ¬ (j : Int) < (n : Int) := by omega
    clear e c0
    go_enter Tryz.func32, Tryz.ntmps32
    go_wp2
    exact bodyPost_ret (v := .agg #[.int .i64 0, .string ⟨#[]⟩, .int .i64 0, .int .i64 0]) (by simp [results, Tryz.results32, go_sem]) rfl ⟨rfl, new1 _ _⟩

def isTS (k : Int) (x : List UInt8) (st : St) : Bool := decide ((hdS st 0).k = k) && decide ((hdS st 0).s = x)
def advS (st : St) : St := st.map List.tail
/-- The state behind a look for this token. -/
def aft (k : Int) (x : List UInt8) (st : St) : St := if isTS k x st then advS st else st
theorem isTS_some {k : Int} {x : List UInt8} {st : St} (hk : k ≠ 0) (h : isTS k x st = true) : ∃ ts, st = some ts ∧ 0 < ts.length := by
  simp only [isTS, Bool.and_eq_true, decide_eq_true_eq] at h
  cases st with
  | none => exact absurd h.1.symm hk
  | some ts =>
    cases ts with
    | nil => exact absurd h.1.symm hk
    | cons t r => exact ⟨_, rfl, by simp⟩

theorem rd_set0 {w : World} {rb : Nat} {ao : Option Addr} {n c : Nat} {b : Bool} (h : w.heap[rb]? = some (rdObj ao n c b)) (ao' : Option Addr) (n' c' : Nat) : (w.setCell ⟨rb, 0, none⟩ (.slice ao' n' c')).heap[rb]? = some (rdObj ao' n' c' b) := by
  simp [World.setCell, Array.getElem?_modify, h, rdObj]
theorem rd_set1 {w : World} {rb : Nat} {ao : Option Addr} {n c : Nat} {b : Bool} (h : w.heap[rb]? = some (rdObj ao n c b)) (b' : Bool) : (w.setCell ⟨rb, 1, none⟩ (.bool b')).heap[rb]? = some (rdObj ao n c b') := by
  simp [World.setCell, Array.getElem?_modify, h, rdObj]
/-- The row is one shorter. -/
theorem rd_adv {w : World} {rb g off cap : Nat} {ts : List Tok} (h : w.heap[rb]? = some (rdObj (some ⟨g, off, none⟩) ts.length cap false)) (h2 : ts.length ≤ cap) (h3 : ts.length ≤ 1048576) (h4 : RowK w rb (some ⟨g, off, none⟩) ts) (hC : Cmps w rb) (hn : 0 < ts.length)
    (off' c' : Nat) (hc : (off' = off + 4 ∨ cap = 1) ∧ c' = cap - 1) : RdAt (w.setCell ⟨rb, 0, none⟩ (.slice (some ⟨g, off', none⟩) (ts.length - 1) c')) rb (some ts.tail) := by
  refine ⟨⟨some ⟨g, off', none⟩, c', ?_, by simp; omega, by simp; omega, ?_⟩, hC.same fun k hk => Below.heap_setCell _ _ _ _ (by show k ≠ rb; omega)⟩
  · rw [List.length_tail]
    exact rd_set0 h _ _ _
  · rcases hc.1 with rfl | e
    · exact (RowK.tail h4).same fun k hk => Below.heap_setCell _ _ _ _ (by show k ≠ rb; omega)
    · intro j hj
      simp at hj
      omega

set_option maxHeartbeats 1000000 in
theorem take_any (st : St) (w : World) (rb : Nat) (k : Int) (x : ByteArray) (hk : k ≠ 0) (h : RdAt w rb st) :
    Calls Tryz.prog 33 #[rp rb, .int .i64 k, .string x] w fun e w' => e = .returned (.bool (isTS k x.data.toList st)) ∧ Keep rb w w' ∧ RdAt w' rb (aft k x.data.toList st) := by
  have P := peek_any st w rb 0 h
  unfold tokV at P
  obtain ⟨t, ht⟩ : ∃ t, t = hdS st 0 := ⟨_, rfl⟩
  rw [← ht] at P
  have hb : isTS k x.data.toList st = (decide (t.k = k) && decide (t.s = x.data.toList)) := by rw [isTS, ht]
  have hlt := h.lt
  unfold rp at P ⊢
  by_cases h1 : t.k = k
  · by_cases h2 : t.s = x.data.toList
    · have h3 : isTS k x.data.toList st = true := by rw [hb]; simp [h1, h2]
      obtain ⟨ts, rfl, hl⟩ := isTS_some hk h3
      have e3 : aft k x.data.toList (some ts) = some ts.tail := by rw [aft, h3]; rfl
      rw [e3, h3]
      have hx : (⟨t.s.toArray⟩ : ByteArray) = x := by rw [h2]
      rw [hx, h1] at P
      obtain ⟨⟨ao, cap, c1, c2, c3, c4⟩, hC⟩ := h
      obtain ⟨g, off, rfl, hg, _⟩ := c4 0 hl
      have hK : (k == k) = true := by simp
      have hX : (x.toList == x.toList) = true := by rw [beq_self_eq_true]
      clear ht hb h1 h2 h3 e3 hx
      have i1 : (1 : Int) ≤ (ts.length : Int) := by omega
      go_enter Tryz.func33, Tryz.ntmps33
      go_wp2_with fail
      refine P.mono ?_
      rintro e w1 ⟨rfl, b1⟩
      have b2 := b1.trans ((new1 w1 (.cells #[.int .i64 k, .string x, .int .i64 t.n, .int .i64 t.p] 70)).mono b1.size)
      have k2 := kept_of_below b2 c1
      have r2 := c4.same fun k hk => b2.block k (by omega)
      obtain ⟨q0, _, qf⟩ := rd_cell k2
      go_wp2
      · have i2 : cap = 1 := by assumption
        go_ret
        exact ⟨rfl, (Keep.of_below b2).setCell (p := ⟨rb, 0, none⟩) (.inl rfl) _, rd_adv k2 c2 c3 r2 (hC.same fun k hk => b2.block k (by omega)) hl _ _ ⟨.inr i2, by omega⟩⟩
      · go_ret
        exact ⟨rfl, (Keep.of_below b2).setCell (p := ⟨rb, 0, none⟩) (.inl rfl) _, rd_adv k2 c2 c3 r2 (hC.same fun k hk => b2.block k (by omega)) hl _ _ ⟨.inl rfl, rfl⟩⟩
    · have h3 : isTS k x.data.toList st = false := by rw [hb]; simp [h2]
      have e3 : aft k x.data.toList st = st := by rw [aft, h3]; rfl
      rw [e3, h3]
      rw [h1] at P
      have hK : (k == k) = true := by simp
      obtain ⟨y, hy⟩ : ∃ y : ByteArray, y = ⟨t.s.toArray⟩ := ⟨_, rfl⟩
      have hX : (y.toList == x.toList) = false := by
        apply beq_eq_false_iff_ne.2
        rw [ByteArray.toList_eq, ByteArray.toList_eq, hy]
        exact h2
      rw [← hy] at P
      clear ht hb h1 h2 h3 e3 hy
      go_enter Tryz.func33, Tryz.ntmps33
      go_wp2_with fail
      refine P.mono ?_
      rintro e w1 ⟨rfl, b1⟩
      have b2 := b1.trans ((new1 w1 (.cells #[.int .i64 k, .string y, .int .i64 t.n, .int .i64 t.p] 70)).mono b1.size)
      go_wp2
      go_ret
      exact ⟨rfl, .of_below b2, h.below b2⟩
  · have h3 : isTS k x.data.toList st = false := by rw [hb]; simp [h1]
    have e3 : aft k x.data.toList st = st := by rw [aft, h3]; rfl
    rw [e3, h3]
    obtain ⟨y, hy⟩ : ∃ y : ByteArray, y = ⟨t.s.toArray⟩ := ⟨_, rfl⟩
    rw [← hy] at P
    clear ht hb h3 e3 hy
    go_enter Tryz.func33, Tryz.ntmps33
    go_wp2_with fail
    refine P.mono ?_
    rintro e w1 ⟨rfl, b1⟩
    have b2 := b1.trans ((new1 w1 (.cells #[.int .i64 t.k, .string y, .int .i64 t.n, .int .i64 t.p] 70)).mono b1.size)
    go_wp2
    go_ret
    exact ⟨rfl, .of_below b2, h.below b2⟩

theorem sign_any (st : St) (w : World) (rb : Nat) (x : ByteArray) (h : RdAt w rb st) :
    Calls Tryz.prog 35 #[rp rb, .string x] w fun e w' => e = .returned (.bool (isTS 4 x.data.toList st)) ∧ Keep rb w w' ∧ RdAt w' rb (aft 4 x.data.toList st) := by
  have T := take_any st w rb 4 x (by decide) h
  generalize isTS 4 x.data.toList st = b at *
  unfold rp at T ⊢
  go_enter Tryz.func35, Tryz.ntmps35
  go_wp2_with fail
  refine T.mono ?_
  rintro e w1 ⟨rfl, k1, r1⟩
  go_wp2
  go_ret
  exact ⟨rfl, k1, r1⟩
theorem word_any (st : St) (w : World) (rb : Nat) (x : ByteArray) (h : RdAt w rb st) :
    Calls Tryz.prog 21 #[rp rb, .string x] w fun e w' => e = .returned (.bool (isTS 1 x.data.toList st)) ∧ Keep rb w w' ∧ RdAt w' rb (aft 1 x.data.toList st) := by
  have T := take_any st w rb 1 x (by decide) h
  generalize isTS 1 x.data.toList st = b at *
  unfold rp at T ⊢
  go_enter Tryz.func21, Tryz.ntmps21
  go_wp2_with fail
  refine T.mono ?_
  rintro e w1 ⟨rfl, k1, r1⟩
  go_wp2
  go_ret
  exact ⟨rfl, k1, r1⟩

/-- Stuck. -/
theorem fail_any (st : St) (w : World) (rb : Nat) (h : RdAt w rb st) :
    Calls Tryz.prog 36 #[rp rb] w fun e w' => e = .returned (.tuple #[]) ∧ Keep rb w w' ∧ RdAt w' rb none := by
  obtain ⟨ao, n, cap, b, hb⟩ : ∃ ao n cap b, w.heap[rb]? = some (rdObj ao n cap b) := by
    cases st with
    | none => exact ⟨none, 0, 0, true, h.1⟩
    | some ts => obtain ⟨ao, cap, h1, _⟩ := h.1; exact ⟨ao, _, cap, false, h1⟩
  obtain ⟨q0, q1, qf⟩ := rd_cell hb
  unfold rp
  have k1 := rd_set0 hb none 0 0
  obtain ⟨_, _, qf1⟩ := rd_cell k1
  go_enter Tryz.func36, Tryz.ntmps36
  go_wp2
  go_end0
  exact ⟨rfl, ((Keep.refl rb w).setCell (p := ⟨rb, 0, none⟩) (.inl rfl) _).setCell (p := ⟨rb, 1, none⟩) (.inl rfl) _, rd_set1 k1 true, h.2.same fun k hk => (Below.heap_setCell _ _ _ _ (by show k ≠ rb; omega)).trans (Below.heap_setCell _ _ _ _ (by show k ≠ rb; omega))⟩

def needSS (k : Int) (x : List UInt8) (st : St) : St := if isTS k x st then advS st else none
set_option maxHeartbeats 400000 in
theorem needSign_any (st : St) (w : World) (rb : Nat) (x : ByteArray) (h : RdAt w rb st) :
    Calls Tryz.prog 27 #[rp rb, .string x] w fun e w' => e = .returned (.tuple #[]) ∧ Keep rb w w' ∧ RdAt w' rb (needSS 4 x.data.toList st) := by
  have S := sign_any st w rb x h
  have F := fun w' h' => fail_any (aft 4 x.data.toList st) w' rb h'
  cases hb : isTS 4 x.data.toList st with
  | true =>
    rw [needSS, hb, if_pos rfl]
    rw [hb, aft, hb, if_pos rfl] at S
    unfold rp at S ⊢
    clear F hb
    go_enter Tryz.func27, Tryz.ntmps27
    go_wp2_with fail
    refine S.mono ?_
    rintro e w1 ⟨rfl, k1, r1⟩
    go_wp2
    go_end0
    exact ⟨rfl, k1, r1⟩
  | false =>
    rw [needSS, hb, if_neg (by simp)]
    rw [hb] at S
    unfold rp at S F ⊢
    clear hb
    go_enter Tryz.func27, Tryz.ntmps27
    go_wp2_with fail
    refine S.mono ?_
    rintro e w1 ⟨rfl, k1, r1⟩
    go_wp2_with fail
    refine (F _ r1).mono ?_
    rintro e w2 ⟨rfl, k2, r2⟩
    go_wp2
    go_end0
    exact ⟨rfl, k1.trans k2, r2⟩
set_option maxHeartbeats 400000 in
theorem needWord_any (st : St) (w : World) (rb : Nat) (x : ByteArray) (h : RdAt w rb st) :
    Calls Tryz.prog 23 #[rp rb, .string x] w fun e w' => e = .returned (.tuple #[]) ∧ Keep rb w w' ∧ RdAt w' rb (needSS 1 x.data.toList st) := by
  have S := word_any st w rb x h
  have F := fun w' h' => fail_any (aft 1 x.data.toList st) w' rb h'
  cases hb : isTS 1 x.data.toList st with
  | true =>
    rw [needSS, hb, if_pos rfl]
    rw [hb, aft, hb, if_pos rfl] at S
    unfold rp at S ⊢
    clear F hb
    go_enter Tryz.func23, Tryz.ntmps23
    go_wp2_with fail
    refine S.mono ?_
    rintro e w1 ⟨rfl, k1, r1⟩
    go_wp2
    go_end0
    exact ⟨rfl, k1, r1⟩
  | false =>
    rw [needSS, hb, if_neg (by simp)]
    rw [hb] at S
    unfold rp at S F ⊢
    clear hb
    go_enter Tryz.func23, Tryz.ntmps23
    go_wp2_with fail
    refine S.mono ?_
    rintro e w1 ⟨rfl, k1, r1⟩
    go_wp2_with fail
    refine (F _ r1).mono ?_
    rintro e w2 ⟨rfl, k2, r2⟩
    go_wp2
    go_end0
    exact ⟨rfl, k1.trans k2, r2⟩

/-- What is left behind the first token, in memory. -/
theorem slice1 (g off n cap : Nat) (hn : 1 ≤ n) : ∃ off', (off' = off + 4 ∨ cap = 1) ∧ ∀ W, (Instr.slice 55 (.slice (some ⟨g, off, none⟩) n cap) (some (.int .i64 1)) none none).run Tryz.prog W = .ok (.slice (some ⟨g, off', none⟩) (n - 1) (cap - 1)) W := by
  have key : ∀ W, (Instr.slice 55 (.slice (some ⟨g, off, none⟩) n cap) (some (.int .i64 1)) none none).run Tryz.prog W = .ok (sliced (some ⟨g, off, none⟩) 1 n cap 4) W := fun W => by
    rw [run_slice_l (P := Tryz.prog) (w := W) 55 (some ⟨g, off, none⟩) n cap (by kernel_rfl) .i64 1 (by decide) (by omega)]
    rw [show (sizeOf (Tryz.prog.elem 55)).run Tryz.prog W = .ok 4 W by kernel_rfl]
    rfl
  by_cases hc : cap = 1
  · refine ⟨off, .inr hc, fun W => ?_⟩
    rw [key W]
    unfold sliced
    rw [if_pos hc]
  · refine ⟨off + 4, .inl rfl, fun W => ?_⟩
    rw [key W]
    unfold sliced
    rw [if_neg hc]
    simp [Addr.add]

theorem blk4 {w : World} {b : Nat} {v0 v1 v2 v3 : Value} {T : TypeId} (h : w.heap[b]? = some (.cells #[v0, v1, v2, v3] T (0, 0))) :
    w.cell? ⟨b, 0, none⟩ = some v0 ∧ w.cell? ⟨b, 1, none⟩ = some v1 ∧ w.cell? ⟨b, 2, none⟩ = some v2 ∧ w.cell? ⟨b, 3, none⟩ = some v3 ∧ ∀ o, w.frozen? ⟨b, o, none⟩ = false :=
  ⟨by rw [Lib.cell_of_heap h]; rfl, by rw [Lib.cell_of_heap h]; rfl, by rw [Lib.cell_of_heap h]; rfl, by rw [Lib.cell_of_heap h]; rfl, fun o => Lib.frozen_of_heap h o⟩

theorem Keep.set4 {rb b : Nat} {a w : World} (h : Keep rb a w) (hb : a.heap.size ≤ b) (v0 v1 v2 v3 : Value) :
    Keep rb a ((((w.setCell ⟨b, 0, none⟩ v0).setCell ⟨b, 1, none⟩ v1).setCell ⟨b, 2, none⟩ v2).setCell ⟨b, 3, none⟩ v3) :=
  (((h.setCell (p := ⟨b, 0, none⟩) (.inr hb) _).setCell (p := ⟨b, 1, none⟩) (.inr hb) _).setCell (p := ⟨b, 2, none⟩) (.inr hb) _).setCell (p := ⟨b, 3, none⟩) (.inr hb) _
theorem RdAt.set4 {rb b : Nat} {st : St} {w : World} (h : RdAt w rb st) (hb : rb < b) (v0 v1 v2 v3 : Value) :
    RdAt ((((w.setCell ⟨b, 0, none⟩ v0).setCell ⟨b, 1, none⟩ v1).setCell ⟨b, 2, none⟩ v2).setCell ⟨b, 3, none⟩ v3) rb st :=
  (((h.setCell (p := ⟨b, 0, none⟩) hb _).setCell (p := ⟨b, 1, none⟩) hb _).setCell (p := ⟨b, 2, none⟩) hb _).setCell (p := ⟨b, 3, none⟩) hb _

/-- A token of this kind: what is answered, and the state behind. -/
def needTok (k : Int) (st : St) : Tok := if (hdS st 0).k = k then hdS st 0 else tok0
def needSt (k : Int) (st : St) : St := if (hdS st 0).k = k then advS st else none
set_option maxHeartbeats 1000000 in
theorem need_any (st : St) (w : World) (rb : Nat) (k : Int) (hk : k ≠ 0) (h : RdAt w rb st) :
    Calls Tryz.prog 38 #[rp rb, .int .i64 k] w fun e w' => e = .returned (tokV (needTok k st)) ∧ Keep rb w w' ∧ RdAt w' rb (needSt k st) := by
  have b0 := new1 w (.cells #[.int .i64 0, .string ⟨#[]⟩, .int .i64 0, .int .i64 0] 70)
  have P := peek_any st _ rb 0 (h.below b0)
  have F := fun w' h' => fail_any st w' rb h'
  have hlt := h.lt
  unfold needTok needSt
  unfold tokV at P
  obtain ⟨t, ht⟩ : ∃ t, t = hdS st 0 := ⟨_, rfl⟩
  rw [← ht] at P ⊢
  unfold rp at P F ⊢
  obtain ⟨y, hy⟩ : ∃ y : ByteArray, y = ⟨t.s.toArray⟩ := ⟨_, rfl⟩
  have hne : ¬ w.heap.size = rb := by omega
  by_cases h1 : t.k = k
  · rw [if_pos h1, if_pos h1]
    have hts : ∃ ts, st = some ts ∧ 0 < ts.length := by
      cases st with
      | none => rw [ht] at h1; exact absurd h1.symm hk
      | some ts => cases ts with
        | nil => rw [ht] at h1; exact absurd h1.symm hk
        | cons a b => exact ⟨_, rfl, by simp⟩
    obtain ⟨ts, rfl, hl⟩ := hts
    show Calls _ _ _ _ fun e w' => _ ∧ _ ∧ RdAt w' rb (some ts.tail)
    unfold tokV
    rw [← hy, h1] at P ⊢
    obtain ⟨⟨ao, cap, c1, c2, c3, c4⟩, hC⟩ := h
    obtain ⟨g, off, rfl, hg, _⟩ := c4 0 hl
    clear ht h1 hy F
    obtain ⟨off', ho, hsl⟩ := slice1 g off ts.length cap hl
    go_enter Tryz.func38, Tryz.ntmps38
    go_wp2_with fail
    generalize hw0 : w.alloc _ = w0 at *
    have z0 : w0.heap[w.heap.size]? = some (.cells #[.int .i64 0, .string ⟨#[]⟩, .int .i64 0, .int .i64 0] 70 (0, 0)) := by rw [← hw0]; exact alloc_heap _ _
    clear hw0
    refine P.mono ?_
    rintro e w1 ⟨rfl, b1⟩
    have b01 := b0.trans (b1.mono b0.size)
    have n2 := new1 w1 (.cells #[.int .i64 k, .string y, .int .i64 t.n, .int .i64 t.p] 70)
    have b2 := b01.trans (n2.mono b01.size)
    have k2 := kept_of_below b2 c1
    have z2 := kept_of_below n2 (kept_of_below b1 z0)
    have r2 := c4.same fun k hk => b2.block k (by omega)
    have y2 : (w1.alloc (.cells #[.int .i64 k, .string y, .int .i64 t.n, .int .i64 t.p] 70)).heap[w1.heap.size]? = some (.cells #[.int .i64 k, .string y, .int .i64 t.n, .int .i64 t.p] 70 (0, 0)) := alloc_heap _ _
    have hne1 : ¬ w1.heap.size = rb := by have := b01.size; omega
    have hs1 := b01.size
    obtain ⟨q0, _, qf⟩ := rd_cell k2
    have K3 := (Keep.of_below (rb := rb) b2).setCell (p := ⟨rb, 0, none⟩) (.inl rfl) (.slice (some ⟨g, off', none⟩) (ts.length - 1) (cap - 1))
    have R3 := rd_adv k2 c2 c3 r2 (hC.same fun k hk => b2.block k (by omega)) hl off' (cap - 1) ⟨ho, rfl⟩
    have z3 := z2
    rw [← Below.heap_setCell _ ⟨rb, 0, none⟩ (.slice (some ⟨g, off', none⟩) (ts.length - 1) (cap - 1)) _ hne] at z3
    have y3 := y2
    rw [← Below.heap_setCell _ ⟨rb, 0, none⟩ (.slice (some ⟨g, off', none⟩) (ts.length - 1) (cap - 1)) _ hne1] at y3
    go_upto_region 6 with fail
    clear q0 qf k2 z2 r2 y2 n2 b2
    generalize World.setCell _ _ _ = w3 at *
    obtain ⟨x0, x1, x2, x3, _⟩ := blk4 y3
    obtain ⟨u0, u1, u2, u3, uf⟩ := blk4 z3
    clear y3 z3 hsl
    go_wp2
    exact bodyPost_ret (v := .agg #[.int .i64 k, .string y, .int .i64 t.n, .int .i64 t.p]) (by simp [results, Tryz.results38, go_sem, u0, u1, u2, u3]) rfl ⟨rfl, K3.set4 (Nat.le_refl _) _ _ _ _, R3.set4 hlt _ _ _ _⟩
  · rw [if_neg h1, if_neg h1]
    clear ht
    rw [← hy] at P
    clear hy
    go_enter Tryz.func38, Tryz.ntmps38
    go_wp2_with fail
    generalize hw0 : w.alloc _ = w0 at *
    have z0 : w0.heap[w.heap.size]? = some (.cells #[.int .i64 0, .string ⟨#[]⟩, .int .i64 0, .int .i64 0] 70 (0, 0)) := by rw [← hw0]; exact alloc_heap _ _
    clear hw0
    refine P.mono ?_
    rintro e w1 ⟨rfl, b1⟩
    have b01 := b0.trans (b1.mono b0.size)
    have n2 := new1 w1 (.cells #[.int .i64 t.k, .string y, .int .i64 t.n, .int .i64 t.p] 70)
    have b2 := b01.trans (n2.mono b01.size)
    have z2 := kept_of_below n2 (kept_of_below b1 z0)
    go_wp2_with fail
    refine (F _ (h.below b2)).mono ?_
    rintro e w3 ⟨rfl, k3, r3⟩
    have K3 := (Keep.of_below (rb := rb) b2).trans k3
    obtain ⟨u0, u1, u2, u3, uf⟩ := blk4 (k3.kept hne z2)
    clear z0 z2 n2 b2
    go_wp2
    exact bodyPost_ret (v := .agg #[.int .i64 0, .string ⟨#[]⟩, .int .i64 0, .int .i64 0]) (by simp [results, Tryz.results38, go_sem, u0, u1, u2, u3]) rfl ⟨rfl, K3.set4 (Nat.le_refl _) _ _ _ _, r3.set4 hlt _ _ _ _⟩
end Go.Proofs.YtlakgnnjokienaaGreatDoor
