/-
  chancellaw13.EvalLazy, plain: what is not looked at counts for nothing; two results of the same.
  chancellaw13.EvalLazy: two trees are made and laid into two new places, in a region that draws its order (plain).
  The trees that law 5 makes are such as eval reckons with.
  chancellaw13.Request of the schema that has nothing.
  chancellaw13.EvalLazy: the walk.
-/
import Derived.Test.YtacljmckohbjaaaGreatEvSR
import Derived.Test.YtacljmckohbjaaaGreatGdAE
import Derived.Test.YtacljmckohbjaaaGreatVeOP
import Derived.Test.YtacljmckohbjaaaGreatEvAC
import Derived.Test.YtacljmckohbjaaaGreatRwMU
import Derived.Test.YtacljmckohbjaaaGreatRwAL
import Derived.Test.YtacljmckohbjaaaGreatRwVX
import Derived.Test.YtacljmckohbjaaaGreatGEU
namespace Go.Proofs.YtacljmckohbjaaaGreat
open Go.RowKit Go.Sort

def ifT (c x y : Ex) : Ex := .mk 25 false 0 [] [] [] [c, x, y]
def andT (x y : Ex) : Ex := .mk 23 false 0 [] [] [] [x, y]
def orT (x y : Ex) : Ex := .mk 24 false 0 [] [] [] [x, y]
theorem eval_ifY (D : EvD) (x y : Ex) : evalE D (ifT (eBool true) x y) = evalE D x := by
  unfold ifT
  rw [evalE_mk]
  show ifC (evalE D (eBool true)) (evalE D x) (evalE D y) = _
  rfl
theorem eval_ifN (D : EvD) (x y : Ex) : evalE D (ifT (eBool false) x y) = evalE D y := by
  unfold ifT
  rw [evalE_mk]
  show ifC (evalE D (eBool false)) (evalE D x) (evalE D y) = _
  rfl
theorem eval_andN (D : EvD) (y : Ex) : evalE D (andT (eBool false) y) = .inl (.pl (.bool false)) := by
  unfold andT
  rw [evalE_mk]
  show bothC false (evalE D (eBool false)) (evalE D y) = _
  rfl
theorem eval_orY (D : EvD) (y : Ex) : evalE D (orT (eBool true) y) = .inl (.pl (.bool true)) := by
  unfold orT
  rw [evalE_mk]
  show bothC true (evalE D (eBool true)) (evalE D y) = _
  rfl
theorem okEv_b (b : Bool) : okEv (eBool b) = true := by cases b <;> decide +kernel
theorem okEv_3 {x y z : Ex} (hx : okEv x = true) (hy : okEv y = true) (hz : okEv z = true) : okEv (ifT x y z) = true := by
  have h0 : InR 0 := by decide
  unfold ifT
  simp [okEv, okEvL, hx, hy, hz, h0]
theorem okEv_2a {x y : Ex} (hx : okEv x = true) (hy : okEv y = true) : okEv (andT x y) = true := by
  have h0 : InR 0 := by decide
  unfold andT
  simp [okEv, okEvL, hx, hy, h0]
theorem okEv_2o {x y : Ex} (hx : okEv x = true) (hy : okEv y = true) : okEv (orT x y) = true := by
  have h0 : InR 0 := by decide
  unfold orT
  simp [okEv, okEvL, hx, hy, h0]
/-- A result and its error, in memory. -/
def MatE (w : World) (r : EvR) (R : R7) (k : Int) : Prop := match r with
  | .inl g => k = 0 ∧ IsG w g R ∧ okEG g
  | .inr x => k = x ∧ x ≠ 0 ∧ R = zero7
theorem MatE.below {w w' : World} {r : EvR} {R : R7} {k : Int} (h : MatE w r R k) (hb : Below w.heap.size w w') : MatE w' r R k := by
  cases r with
  | inl g =>
    obtain ⟨h1, h2, h3⟩ : k = 0 ∧ IsG w g R ∧ okEG g := h
    exact ⟨h1, h2.below hb, h3⟩
  | inr x => exact h
theorem MatE.err {w w' : World} {r : EvR} {R R' : R7} {k k' : Int} (h : MatE w r R k) (h' : MatE w' r R' k') : k = k' := by
  cases r with
  | inl g =>
    obtain ⟨h1, _, _⟩ : k = 0 ∧ IsG w g R ∧ okEG g := h
    obtain ⟨h2, _, _⟩ : k' = 0 ∧ IsG w' g R' ∧ okEG g := h'
    rw [h1, h2]
  | inr x =>
    obtain ⟨h1, _, _⟩ : k = x ∧ x ≠ 0 ∧ R = zero7 := h
    obtain ⟨h2, _, _⟩ : k' = x ∧ x ≠ 0 ∧ R' = zero7 := h'
    rw [h1, h2]
theorem MatE.same {w : World} {r : EvR} {R R' : R7} {k k' : Int} (h : MatE w r R k) (h' : MatE w r R' k') : Calls Tryz.prog 10 #[.agg #[.int .i64 R.k, .bool R.b, .int .i64 R.n, .string R.s, .string R.t, .string R.i, .slice R.lo R.ll R.lc], .agg #[.int .i64 R'.k, .bool R'.b, .int .i64 R'.n, .string R'.s, .string R'.t, .string R'.i, .slice R'.lo R'.ll R'.lc]] w fun e w' => e = .returned (.bool true) ∧ Below w.heap.size w w' := by
  cases r with
  | inl g =>
    obtain ⟨_, h1, h2⟩ : k = 0 ∧ IsG w g R ∧ okEG g := h
    obtain ⟨_, h3, _⟩ : k' = 0 ∧ IsG w g R' ∧ okEG g := h'
    refine r3sameG_true g R R' w h1 h3 ?_
    cases g with
    | pl p => exact Nat.zero_le _
    | set l => exact h2
  | inr x =>
    obtain ⟨_, _, rfl⟩ : k = x ∧ x ≠ 0 ∧ R = zero7 := h
    obtain ⟨_, _, rfl⟩ : k' = x ∧ x ≠ 0 ∧ R' = zero7 := h'
    exact r3same_zero w
end Go.Proofs.YtacljmckohbjaaaGreat

namespace Go.Proofs.YtacljmckohbjaaaGreat
open Go.RowKit Go.Sort

def zObj : Obj := .cells #[.int .i64 0, .bool false, .int .i64 0, .string ⟨#[]⟩, .string ⟨#[]⟩, .string ⟨#[]⟩, .slice none 0 0] 42
def qObj (q : R7) : Obj := .cells #[.int .i64 q.k, .bool q.b, .int .i64 q.n, .string q.s, .string q.t, .string q.i, .slice q.lo q.ll q.lc] 42
def ptrV (B : Nat) : Value := .pointer (some ⟨B, 0, none⟩)
/-- Not one of the two places. -/
def NB (a' : Act) (b : Nat) : Prop := ∀ B, a'.tmps.getD 11 undef = ptrV B ∨ a'.tmps.getD 12 undef = ptrV B → b ≠ B
/-- What is known while it goes on: 1, 3 the trees' calls (slots 42, 44), 4, 5 the places (11, 12), 6, 7 the stores. -/
structure RtT (wR : World) (X Y : Ex) (Lb : Nat → Bool) (a' : Act) (w' : World) : Prop where
  bel : Below wR.heap.size wR w'
  u11 : Lb 4 = false → a'.tmps.getD 11 undef = undef
  u12 : Lb 5 = false → a'.tmps.getD 12 undef = undef
  px : Lb 4 = true → ∃ B, a'.tmps.getD 11 undef = ptrV B ∧ wR.heap.size ≤ B ∧ B < w'.heap.size ∧ (Lb 6 = false → w'.heap[B]? = some zObj)
  py : Lb 5 = true → ∃ B, a'.tmps.getD 12 undef = ptrV B ∧ wR.heap.size ≤ B ∧ B < w'.heap.size ∧ (Lb 7 = false → w'.heap[B]? = some zObj)
  ne : ∀ B, a'.tmps.getD 11 undef = ptrV B → a'.tmps.getD 12 undef ≠ ptrV B
  tx : Lb 1 = true → ∃ q : R7, a'.tmps.getD 42 undef = q.val ∧ IsE w' (NB a') q X ∧ (Lb 6 = true → ∀ B, a'.tmps.getD 11 undef = ptrV B → w'.heap[B]? = some (qObj q))
  ty : Lb 3 = true → ∃ q : R7, a'.tmps.getD 44 undef = q.val ∧ IsE w' (NB a') q Y ∧ (Lb 7 = true → ∀ B, a'.tmps.getD 12 undef = ptrV B → w'.heap[B]? = some (qObj q))
  o6 : Lb 6 = true → Lb 4 = true
  o7 : Lb 7 = true → Lb 5 = true
  w6 : Lb 6 = true → Lb 1 = true
  w7 : Lb 7 = true → Lb 3 = true
theorem put_neT (a : Act) (d s : Nat) (v : Value) (h : s ≠ d) : (a.put (some d) v).tmps.getD s undef = a.tmps.getD s undef := by
  simp [Act.put, Array.getElem?_setIfInBounds_ne (Ne.symm h)]
theorem put_eqT (a : Act) (d : Nat) (v : Value) (h : d < a.tmps.size) : (a.put (some d) v).tmps.getD d undef = v := by
  simp [Act.put, h]
section
variable {wR w' w'' : World} {X Y : Ex} {Lb : Nat → Bool} {a' : Act}
theorem RtT.start (a : Act) (h11 : a.tmps.getD 11 undef = undef) (h12 : a.tmps.getD 12 undef = undef) : RtT wR X Y (fun _ => false) a wR.drew :=
  ⟨(Below.refl _ wR).drew, fun _ => h11, fun _ => h12, fun h => (by cases h), fun h => (by cases h), fun B h => (by rw [h11] at h; cases h), fun h => (by cases h), fun h => (by cases h), fun h => (by cases h), fun h => (by cases h), fun h => (by cases h), fun h => (by cases h)⟩
theorem RtT.ptrs (h : RtT wR X Y Lb a' w') {B : Nat} (hB : a'.tmps.getD 11 undef = ptrV B ∨ a'.tmps.getD 12 undef = ptrV B) : wR.heap.size ≤ B ∧ B < w'.heap.size := by
  rcases hB with hB | hB
  · cases h4 : Lb 4 with
    | false => rw [h.u11 h4] at hB; cases hB
    | true =>
      obtain ⟨B', e, h1, h2, _⟩ := h.px h4
      rw [e] at hB
      injection hB with hB
      injection hB with hB
      injection hB with hB
      subst hB
      exact ⟨h1, h2⟩
  · cases h5 : Lb 5 with
    | false => rw [h.u12 h5] at hB; cases hB
    | true =>
      obtain ⟨B', e, h1, h2, _⟩ := h.py h5
      rw [e] at hB
      injection hB with hB
      injection hB with hB
      injection hB with hB
      subst hB
      exact ⟨h1, h2⟩
/-- A step that leaves the four slots and all that was there: another operation (not 1, 3 to 7). -/
theorem RtT.keep (h : RtT wR X Y Lb a' w') (i d : Nat) (v : Value) (hi : i = 0 ∨ i = 2) (hd : d ≠ 11 ∧ d ≠ 12 ∧ d ≠ 42 ∧ d ≠ 44) : RtT wR X Y (fun j => decide (j = i) || Lb j) (a'.put (some d) v) w' := by
  have e : ∀ k, k ≠ i → (decide (k = i) || Lb k) = Lb k := fun k hk => by simp [hk]
  have s : ∀ k, k ≠ d → (a'.put (some d) v).tmps.getD k undef = a'.tmps.getD k undef := fun k hk => put_neT a' d k v hk
  have nb : NB (a'.put (some d) v) = NB a' := by unfold NB; rw [s 11 (by omega), s 12 (by omega)]
  have e1 := e 1 (by omega); have e3 := e 3 (by omega); have e4 := e 4 (by omega); have e5 := e 5 (by omega); have e6 := e 6 (by omega); have e7 := e 7 (by omega)
  constructor
  · exact h.bel
  · rw [e4, s 11 (by omega)]; exact h.u11
  · rw [e5, s 12 (by omega)]; exact h.u12
  · rw [e4, e6, s 11 (by omega)]; exact h.px
  · rw [e5, e7, s 12 (by omega)]; exact h.py
  · rw [s 11 (by omega), s 12 (by omega)]; exact h.ne
  · rw [e1, e6, s 11 (by omega), s 42 (by omega), nb]; exact h.tx
  · rw [e3, e7, s 12 (by omega), s 44 (by omega), nb]; exact h.ty
  · rw [e6, e4]; exact h.o6
  · rw [e7, e5]; exact h.o7
  · rw [e6, e1]; exact h.w6
  · rw [e7, e3]; exact h.w7
/-- The first tree's call. -/
theorem RtT.callX (h : RtT wR X Y Lb a' w') (h6 : Lb 6 = false) (hs : 42 < a'.tmps.size) (q : R7) (hb : Below w'.heap.size w' w'') (hq : IsE w'' (fun b => w'.heap.size ≤ b) q X) : RtT wR X Y (fun j => decide (j = 1) || Lb j) (a'.put (some 42) q.val) w'' := by
  have e : ∀ k, k ≠ 1 → (decide (k = 1) || Lb k) = Lb k := fun k hk => by simp [hk]
  have s : ∀ k, k ≠ 42 → (a'.put (some 42) q.val).tmps.getD k undef = a'.tmps.getD k undef := fun k hk => put_neT a' 42 k _ hk
  have nb : NB (a'.put (some 42) q.val) = NB a' := by unfold NB; rw [s 11 (by omega), s 12 (by omega)]
  have e3 := e 3 (by omega); have e4 := e 4 (by omega); have e5 := e 5 (by omega); have e6 := e 6 (by omega); have e7 := e 7 (by omega)
  constructor
  · exact h.bel.trans (hb.mono h.bel.size)
  · rw [e4, s 11 (by omega)]; exact h.u11
  · rw [e5, s 12 (by omega)]; exact h.u12
  · rw [e4, e6, s 11 (by omega)]
    intro h4
    obtain ⟨B, h1, h2, h3, h5⟩ := h.px h4
    exact ⟨B, h1, h2, Nat.lt_of_lt_of_le h3 hb.size, fun h6 => (hb.block B h3).trans (h5 h6)⟩
  · rw [e5, e7, s 12 (by omega)]
    intro h4
    obtain ⟨B, h1, h2, h3, h5⟩ := h.py h4
    exact ⟨B, h1, h2, Nat.lt_of_lt_of_le h3 hb.size, fun h6 => (hb.block B h3).trans (h5 h6)⟩
  · rw [s 11 (by omega), s 12 (by omega)]; exact h.ne
  · intro _
    refine ⟨q, put_eqT a' 42 _ hs, ?_, fun h6' => by rw [e6, h6] at h6'; cases h6'⟩
    rw [nb]
    exact IsE.turn (Nat.le_refl _) (fun b h1 _ => ⟨rfl, fun B hB => by have := (h.ptrs hB).2; omega⟩) q X hq
  · rw [e3, e7, s 12 (by omega), s 44 (by omega), nb]
    intro h3
    obtain ⟨q', h1, h2, h4⟩ := h.ty h3
    exact ⟨q', h1, IsE.turn hb.size (fun b hn hl => ⟨hb.block b hl, hn⟩) q' Y h2, fun h7 B hB => (hb.block B (h.ptrs (.inr hB)).2).trans (h4 h7 B hB)⟩
  · rw [e6, e4]; exact h.o6
  · rw [e7, e5]; exact h.o7
  · intro _; simp
  · rw [e7, e3]; exact h.w7
/-- The second tree's call. -/
theorem RtT.callY (h : RtT wR X Y Lb a' w') (h7 : Lb 7 = false) (hs : 44 < a'.tmps.size) (q : R7) (hb : Below w'.heap.size w' w'') (hq : IsE w'' (fun b => w'.heap.size ≤ b) q Y) : RtT wR X Y (fun j => decide (j = 3) || Lb j) (a'.put (some 44) q.val) w'' := by
  have e : ∀ k, k ≠ 3 → (decide (k = 3) || Lb k) = Lb k := fun k hk => by simp [hk]
  have s : ∀ k, k ≠ 44 → (a'.put (some 44) q.val).tmps.getD k undef = a'.tmps.getD k undef := fun k hk => put_neT a' 44 k _ hk
  have nb : NB (a'.put (some 44) q.val) = NB a' := by unfold NB; rw [s 11 (by omega), s 12 (by omega)]
  have e1 := e 1 (by omega); have e4 := e 4 (by omega); have e5 := e 5 (by omega); have e6 := e 6 (by omega); have e7 := e 7 (by omega)
  constructor
  · exact h.bel.trans (hb.mono h.bel.size)
  · rw [e4, s 11 (by omega)]; exact h.u11
  · rw [e5, s 12 (by omega)]; exact h.u12
  · rw [e4, e6, s 11 (by omega)]
    intro h4
    obtain ⟨B, h1, h2, h3, h5⟩ := h.px h4
    exact ⟨B, h1, h2, Nat.lt_of_lt_of_le h3 hb.size, fun h6 => (hb.block B h3).trans (h5 h6)⟩
  · rw [e5, e7, s 12 (by omega)]
    intro h4
    obtain ⟨B, h1, h2, h3, h5⟩ := h.py h4
    exact ⟨B, h1, h2, Nat.lt_of_lt_of_le h3 hb.size, fun h6 => (hb.block B h3).trans (h5 h6)⟩
  · rw [s 11 (by omega), s 12 (by omega)]; exact h.ne
  · rw [e1, e6, s 11 (by omega), s 42 (by omega), nb]
    intro h3
    obtain ⟨q', h1, h2, h4⟩ := h.tx h3
    exact ⟨q', h1, IsE.turn hb.size (fun b hn hl => ⟨hb.block b hl, hn⟩) q' X h2, fun h6 B hB => (hb.block B (h.ptrs (.inl hB)).2).trans (h4 h6 B hB)⟩
  · intro _
    refine ⟨q, put_eqT a' 44 _ hs, ?_, fun h7' => by rw [e7, h7] at h7'; cases h7'⟩
    rw [nb]
    exact IsE.turn (Nat.le_refl _) (fun b h1 _ => ⟨rfl, fun B hB => by have := (h.ptrs hB).2; omega⟩) q Y hq
  · rw [e6, e4]; exact h.o6
  · rw [e7, e5]; exact h.o7
  · rw [e6, e1]; exact h.w6
  · intro _; simp
/-- A place for the first tree. -/
theorem RtT.allocX (h : RtT wR X Y Lb a' w') (hL : Lb 4 = false) (hs : 11 < a'.tmps.size) : RtT wR X Y (fun j => decide (j = 4) || Lb j) (a'.put (some 11) (ptrV w'.heap.size)) (w'.alloc zObj) := by
  have e : ∀ k, k ≠ 4 → (decide (k = 4) || Lb k) = Lb k := fun k hk => by simp [hk]
  have s : ∀ k, k ≠ 11 → (a'.put (some 11) (ptrV w'.heap.size)).tmps.getD k undef = a'.tmps.getD k undef := fun k hk => put_neT a' 11 k _ hk
  have se := put_eqT a' 11 (ptrV w'.heap.size) hs
  have hb := ev1 w' zObj
  have z : w'.heap.size < (w'.alloc zObj).heap.size := (Array.getElem?_eq_some_iff.1 (alloc_heap w' zObj)).1
  have inj : ∀ B B', ptrV B = ptrV B' → B = B' := fun B B' e => by injection e with e; injection e with e; injection e
  have e1 := e 1 (by omega); have e3 := e 3 (by omega); have e5 := e 5 (by omega); have e6 := e 6 (by omega); have e7 := e 7 (by omega)
  have hn : Lb 6 = false := by
    cases h6 : Lb 6 with
    | false => rfl
    | true => rw [h.o6 h6] at hL; cases hL
  have nbt : ∀ q x, IsE w' (NB a') q x → IsE (w'.alloc zObj) (NB (a'.put (some 11) (ptrV w'.heap.size))) q x := fun q x hq => IsE.turn hb.size (fun b hb1 hl => ⟨hb.block b hl, fun B hB => by
    rcases hB with hB | hB
    · rw [se] at hB; have := inj _ _ hB; omega
    · rw [s 12 (by omega)] at hB; exact hb1 B (.inr hB)⟩) q x hq
  constructor
  · exact h.bel.trans (hb.mono h.bel.size)
  · intro hf; simp at hf
  · rw [e5, s 12 (by omega)]; exact h.u12
  · intro _
    exact ⟨w'.heap.size, se, h.bel.size, z, fun _ => alloc_heap w' zObj⟩
  · rw [e5, e7, s 12 (by omega)]
    intro h4
    obtain ⟨B, h1, h2, h3, h5⟩ := h.py h4
    exact ⟨B, h1, h2, Nat.lt_trans h3 z, fun h6 => (hb.block B h3).trans (h5 h6)⟩
  · intro B h1 h2
    rw [se] at h1
    rw [s 12 (by omega)] at h2
    have := inj _ _ h1
    have := (h.ptrs (.inr h2)).2
    omega
  · rw [e1, e6, s 42 (by omega)]
    intro h3
    obtain ⟨q', h1, h2, h4⟩ := h.tx h3
    exact ⟨q', h1, nbt _ _ h2, fun h6 B hB => by
      rw [hn] at h6; cases h6⟩
  · rw [e3, e7, s 44 (by omega)]
    intro h3
    obtain ⟨q', h1, h2, h4⟩ := h.ty h3
    exact ⟨q', h1, nbt _ _ h2, fun h7 B hB => by
      rw [s 12 (by omega)] at hB; exact (hb.block B (h.ptrs (.inr hB)).2).trans (h4 h7 B hB)⟩
  · rw [e6]; intro h6; rw [hn] at h6; cases h6
  · rw [e7]; intro h7; rw [e5]; exact h.o7 h7
  · rw [e6, e1]; exact h.w6
  · rw [e7, e3]; exact h.w7
/-- A place for the second tree. -/
theorem RtT.allocY (h : RtT wR X Y Lb a' w') (hL : Lb 5 = false) (hs : 12 < a'.tmps.size) : RtT wR X Y (fun j => decide (j = 5) || Lb j) (a'.put (some 12) (ptrV w'.heap.size)) (w'.alloc zObj) := by
  have e : ∀ k, k ≠ 5 → (decide (k = 5) || Lb k) = Lb k := fun k hk => by simp [hk]
  have s : ∀ k, k ≠ 12 → (a'.put (some 12) (ptrV w'.heap.size)).tmps.getD k undef = a'.tmps.getD k undef := fun k hk => put_neT a' 12 k _ hk
  have se := put_eqT a' 12 (ptrV w'.heap.size) hs
  have hb := ev1 w' zObj
  have z : w'.heap.size < (w'.alloc zObj).heap.size := (Array.getElem?_eq_some_iff.1 (alloc_heap w' zObj)).1
  have inj : ∀ B B', ptrV B = ptrV B' → B = B' := fun B B' e => by injection e with e; injection e with e; injection e
  have e1 := e 1 (by omega); have e3 := e 3 (by omega); have e4 := e 4 (by omega); have e6 := e 6 (by omega); have e7 := e 7 (by omega)
  have hn : Lb 7 = false := by
    cases h6 : Lb 7 with
    | false => rfl
    | true => rw [h.o7 h6] at hL; cases hL
  have nbt : ∀ q x, IsE w' (NB a') q x → IsE (w'.alloc zObj) (NB (a'.put (some 12) (ptrV w'.heap.size))) q x := fun q x hq => IsE.turn hb.size (fun b hb1 hl => ⟨hb.block b hl, fun B hB => by
    rcases hB with hB | hB
    · rw [s 11 (by omega)] at hB; exact hb1 B (.inl hB)
    · rw [se] at hB; have := inj _ _ hB; omega⟩) q x hq
  constructor
  · exact h.bel.trans (hb.mono h.bel.size)
  · rw [e4, s 11 (by omega)]; exact h.u11
  · intro hf; simp at hf
  · rw [e4, e6, s 11 (by omega)]
    intro h4
    obtain ⟨B, h1, h2, h3, h5⟩ := h.px h4
    exact ⟨B, h1, h2, Nat.lt_trans h3 z, fun h6 => (hb.block B h3).trans (h5 h6)⟩
  · intro _
    exact ⟨w'.heap.size, se, h.bel.size, z, fun _ => alloc_heap w' zObj⟩
  · intro B h1 h2
    rw [se] at h2
    rw [s 11 (by omega)] at h1
    have := inj _ _ h2
    have := (h.ptrs (.inl h1)).2
    omega
  · rw [e1, e6, s 42 (by omega)]
    intro h3
    obtain ⟨q', h1, h2, h4⟩ := h.tx h3
    exact ⟨q', h1, nbt _ _ h2, fun h6 B hB => by
      rw [s 11 (by omega)] at hB; exact (hb.block B (h.ptrs (.inl hB)).2).trans (h4 h6 B hB)⟩
  · rw [e3, e7, s 44 (by omega)]
    intro h3
    obtain ⟨q', h1, h2, h4⟩ := h.ty h3
    exact ⟨q', h1, nbt _ _ h2, fun h7 B hB => by
      rw [hn] at h7; cases h7⟩
  · rw [e6]; intro h6; rw [e4]; exact h.o6 h6
  · rw [e7]; intro h7; rw [hn] at h7; cases h7
  · rw [e6, e1]; exact h.w6
  · rw [e7, e3]; exact h.w7
/-- The first tree is laid into its place. -/
theorem RtT.stX (h : RtT wR X Y Lb a' w') (h1 : Lb 1 = true) (h4 : Lb 4 = true) {B : Nat} (hB : a'.tmps.getD 11 undef = ptrV B) {q : R7} (hq : a'.tmps.getD 42 undef = q.val) (hE : IsE w' (NB a') q X) (hsz : w''.heap.size = w'.heap.size) (hset : w''.heap[B]? = some (qObj q)) (hoth : ∀ b, b ≠ B → w''.heap[b]? = w'.heap[b]?) (hbel : Below wR.heap.size wR w'') : RtT wR X Y (fun j => decide (j = 6) || Lb j) a' w'' := by
  have e : ∀ k, k ≠ 6 → (decide (k = 6) || Lb k) = Lb k := fun k hk => by simp [hk]
  have inj : ∀ B B', ptrV B = ptrV B' → B = B' := fun B B' e => by injection e with e; injection e with e; injection e
  have e1 := e 1 (by omega); have e3 := e 3 (by omega); have e4 := e 4 (by omega); have e5 := e 5 (by omega); have e7 := e 7 (by omega)
  have nbt : ∀ q x, IsE w' (NB a') q x → IsE w'' (NB a') q x := fun q x hq => IsE.turn (by omega) (fun b hb1 _ => ⟨hoth b (hb1 B (.inl hB)), hb1⟩) q x hq
  have hne : ∀ B', a'.tmps.getD 12 undef = ptrV B' → B' ≠ B := fun B' h' e => h.ne B' (by rw [e]; exact hB) (by rw [e] at h'; rw [e]; exact h')
  constructor
  · exact hbel
  · rw [e4]; exact h.u11
  · rw [e5]; exact h.u12
  · rw [e4]
    intro h4
    obtain ⟨B', h1, h2, h3, h5⟩ := h.px h4
    exact ⟨B', h1, h2, by omega, fun h6 => by simp at h6⟩
  · rw [e5, e7]
    intro h4
    obtain ⟨B', h1, h2, h3, h5⟩ := h.py h4
    exact ⟨B', h1, h2, by omega, fun h6 => (hoth B' (hne B' h1)).trans (h5 h6)⟩
  · exact h.ne
  · intro _
    exact ⟨q, hq, nbt _ _ hE, fun _ B' hB' => by rw [inj _ _ (hB'.symm.trans hB)]; exact hset⟩
  · rw [e3, e7]
    intro h3
    obtain ⟨q', k1, k2, k3⟩ := h.ty h3
    exact ⟨q', k1, nbt _ _ k2, fun h7 B' hB' => (hoth B' (hne B' hB')).trans (k3 h7 B' hB')⟩
  · intro _; rw [e4]; exact h4
  · rw [e7, e5]; exact h.o7
  · intro _; rw [e1]; exact h1
  · rw [e7, e3]; exact h.w7
/-- The second tree is laid into its place. -/
theorem RtT.stY (h : RtT wR X Y Lb a' w') (h1 : Lb 3 = true) (h4 : Lb 5 = true) {B : Nat} (hB : a'.tmps.getD 12 undef = ptrV B) {q : R7} (hq : a'.tmps.getD 44 undef = q.val) (hE : IsE w' (NB a') q Y) (hsz : w''.heap.size = w'.heap.size) (hset : w''.heap[B]? = some (qObj q)) (hoth : ∀ b, b ≠ B → w''.heap[b]? = w'.heap[b]?) (hbel : Below wR.heap.size wR w'') : RtT wR X Y (fun j => decide (j = 7) || Lb j) a' w'' := by
  have e : ∀ k, k ≠ 7 → (decide (k = 7) || Lb k) = Lb k := fun k hk => by simp [hk]
  have inj : ∀ B B', ptrV B = ptrV B' → B = B' := fun B B' e => by injection e with e; injection e with e; injection e
  have e1 := e 1 (by omega); have e3 := e 3 (by omega); have e4 := e 4 (by omega); have e5 := e 5 (by omega); have e6 := e 6 (by omega)
  have nbt : ∀ q x, IsE w' (NB a') q x → IsE w'' (NB a') q x := fun q x hq => IsE.turn (by omega) (fun b hb1 _ => ⟨hoth b (hb1 B (.inr hB)), hb1⟩) q x hq
  have hne : ∀ B', a'.tmps.getD 11 undef = ptrV B' → B' ≠ B := fun B' h' e => h.ne B' (by rw [h']) (by rw [e]; exact hB)
  constructor
  · exact hbel
  · rw [e4]; exact h.u11
  · rw [e5]; exact h.u12
  · rw [e4, e6]
    intro h4
    obtain ⟨B', h1, h2, h3, h5⟩ := h.px h4
    exact ⟨B', h1, h2, by omega, fun h6 => (hoth B' (hne B' h1)).trans (h5 h6)⟩
  · rw [e5]
    intro h4
    obtain ⟨B', h1, h2, h3, h5⟩ := h.py h4
    exact ⟨B', h1, h2, by omega, fun h6 => by simp at h6⟩
  · exact h.ne
  · rw [e1, e6]
    intro h3
    obtain ⟨q', k1, k2, k3⟩ := h.tx h3
    exact ⟨q', k1, nbt _ _ k2, fun h7 B' hB' => (hoth B' (hne B' hB')).trans (k3 h7 B' hB')⟩
  · intro _
    exact ⟨q, hq, nbt _ _ hE, fun _ B' hB' => by rw [inj _ _ (hB'.symm.trans hB)]; exact hset⟩
  · rw [e6, e4]; exact h.o6
  · intro _; rw [e5]; exact h4
  · rw [e6, e1]; exact h.w6
  · intro _; rw [e3]; exact h1
end
end Go.Proofs.YtacljmckohbjaaaGreat

namespace Go.Proofs.YtacljmckohbjaaaGreat
open Go.RowKit

theorem nmI_lenE (n : Int) : (nmI n).length ≤ 9 := by
  have h : ∀ m : Fin 7, (nm7.getD m.val []).length ≤ 9 := by decide
  exact h ⟨(n % 7).toNat, by omega⟩
theorem vrI_lenE (n : Int) : (vrI n).length ≤ 9 := by
  have h : ∀ m : Fin 3, (vr3.getD m.val []).length ≤ 9 := by decide
  exact h ⟨(n % 3).toNat, by omega⟩
theorem idt5_lenE (s : List Int) : (idt5 s).length ≤ 160 := txt_len _
theorem leaf_okEv (k n : Int) (s : List Int) : okEv (leafX k n s) = true := by
  have h0 : InR 0 := by decide
  have h1 : InR (n % 4611686018427387904) := ⟨by omega, by omega⟩
  have h2 : (idt5 s).length < 4294967281 := by have := idt5_lenE s; omega
  have h3 : (vrI n).length < 4294967281 := by have := vrI_lenE n; omega
  unfold leafX
  repeat' split
  all_goals
    first | unfold eBool | unfold eLong | unfold eStr | unfold eUid | unfold eVar | unfold eOp
    simp [okEv, okEvL, h0, h1, h2, h3]
theorem arS_lenE (k n : Int) (s : List Int) : (arS k n s).length < 4294967281 := by
  unfold arS
  split
  · have := nmI_lenE n; omega
  · split
    · have := idt5_lenE s; omega
    · simp
theorem arN_le (k : Int) (n : Nat) : arN k n ≤ 8 := by
  unfold arN
  split
  · omega
  · split
    · omega
    · split <;> omega
theorem okEvL_of : ∀ (l : List Ex), (∀ x ∈ l, okEv x = true) → okEvL l = true
  | [], _ => by unfold okEvL; rfl
  | x :: l, h => by
    unfold okEvL
    rw [h x (by simp), okEvL_of l fun y hy => h y (by simp [hy])]
    rfl
theorem tree_okEv : ∀ (d : Nat) (x : Rw), okEv (treeX d x) = true := by
  intro d
  induction d with
  | zero =>
    intro x
    obtain ⟨op, n, s, l⟩ := x
    exact leaf_okEv _ _ _
  | succ d ih =>
    intro x
    obtain ⟨op, n, s, l⟩ := x
    rw [treeX]
    split
    · exact leaf_okEv _ _ _
    · have h0 : InR 0 := by decide
      have h1 := arS_lenE (6 + op % 20) n s
      have h2 := arN_le (6 + op % 20) l.length
      have h3 : (kidsX d l (arN (6 + op % 20) l.length)).length ≤ 100000 := by
        unfold kidsX
        rw [List.length_map, List.length_range]
        omega
      have h4 : okEvL (kidsX d l (arN (6 + op % 20) l.length)) = true := okEvL_of _ fun y hy => by
        unfold kidsX at hy
        obtain ⟨i, _, rfl⟩ := List.mem_map.1 hy
        exact ih _
      show okEv (.mk (6 + op % 20) false 0 (arS (6 + op % 20) n s) [] [] (kidsX d l (arN (6 + op % 20) l.length))) = true
      unfold okEv
      rw [h4]
      simp [h0, h1, h3]
end Go.Proofs.YtacljmckohbjaaaGreat

namespace Go.Proofs.YtacljmckohbjaaaGreat
open Go.RowKit Go.Sort

/-- A region that makes memory, and whose last operation (m) stores: then F holds. -/
def DRm (m : Nat) (w6 : World) (F : World → Prop) (L : Nat → Bool) (_ : Act) (w' : World) : Prop := (L m = false ∧ Below w6.heap.size w6 w') ∨ (L m = true ∧ (∀ j, j < m → L j = true) ∧ F w')
theorem DRm.below {m : Nat} {w6 w' : World} {F : World → Prop} {L : Nat → Bool} {a : Act} {i : Nat} (h : DRm m w6 F L a w') (hi : i < m) (hL : L i = false) : Below w6.heap.size w6 w' := by
  rcases h with h | ⟨_, h, _⟩
  · exact h.2
  · rw [h i hi] at hL
    cases hL
theorem DRm.low {m : Nat} {w6 w' : World} {F : World → Prop} {L : Nat → Bool} {a : Act} (h : DRm m w6 F L a w') (hL : L m = false) : Below w6.heap.size w6 w' := by
  rcases h with h | ⟨h, _⟩
  · exact h.2
  · rw [hL] at h
    cases h
theorem DRm.fin {m : Nat} {w6 w' : World} {F : World → Prop} {L : Nat → Bool} {a : Act} (h : DRm m w6 F L a w') (hL : L m = true) : F w' := by
  rcases h with ⟨h, _⟩ | ⟨_, _, h⟩
  · rw [hL] at h
    cases h
  · exact h
theorem DRm.step {m : Nat} {w6 w' w'' : World} {F : World → Prop} {L : Nat → Bool} {a a' : Act} {i : Nat} (h : DRm m w6 F L a w') (hi : i < m) (hL : L i = false) (hb : Below w'.heap.size w' w'') : DRm m w6 F (fun j => decide (j = i) || L j) a' w'' := by
  rcases h with ⟨h1, h2⟩ | ⟨_, h, _⟩
  · refine .inl ⟨?_, h2.trans (hb.mono h2.size)⟩
    have : ¬ m = i := by omega
    simp [this, h1]
  · rw [h i hi] at hL
    cases hL
def rqSp (b off N sc : Nat) (x0 x1 x2 : Int) : Nat → Value → World → Prop
  | 0, v, _ => v = .slice (some ⟨b, off, none⟩) N sc
  | 1, v, _ => v = .pointer (some ⟨b, off, none⟩)
  | 2, v, _ => v = .int .i64 x0
  | 3, v, _ => v = .agg #[.string (ba (tyI5 x0)), .string (ba (idt5 []))]
  | 4, v, _ => v = .slice (some ⟨b, off, none⟩) N sc
  | 5, v, _ => v = .pointer (some ⟨b, off + 1, none⟩)
  | 6, v, _ => v = .int .i64 x1
  | 7, v, _ => v = .agg #[.string (ba (tyI5 x1)), .string (ba (idt5 []))]
  | 8, v, _ => v = .slice (some ⟨b, off, none⟩) N sc
  | 9, v, _ => v = .pointer (some ⟨b, off + 2, none⟩)
  | 10, v, _ => v = .int .i64 x2
  | 11, v, _ => v = .agg #[.string (ba (tyI5 x2)), .string (ba (idt5 []))]
  | 12, v, _ => v = .agg #[.string (ba (tyI5 x0)), .string (ba (idt5 [])), .string (ba (tyI5 x1)), .string (ba (idt5 [])), .string (ba (tyI5 x2)), .string (ba (idt5 []))]
  | _ + 13, _, _ => True
theorem rqSp_up {b off N sc : Nat} {x0 x1 x2 : Int} {w' w'' : World} (j : Nat) (u : Value) (h : rqSp b off N sc x0 x1 x2 j u w') : rqSp b off N sc x0 x1 x2 j u w'' := by
  match j with
  | 0 | 1 | 2 | 3 | 4 | 5 | 6 | 7 | 8 | 9 | 10 | 11 | 12 => exact h
  | _ + 13 => trivial

set_option maxHeartbeats 16000000 in
set_option maxRecDepth 1000000 in
theorem req13_any (lv : Value) (so : Option Addr) (xs : List Int) (sc : Nat) (w : World) (hz : IntsAt w so xs) :
    Calls Tryz.prog 7 #[.agg #[.slice none 0 0, .slice none 0 0], lv, .slice so xs.length sc] w fun e w' => Below w.heap.size w w' ∧ ∃ p a r : U2, e = .returned (.agg #[.string p.t, .string p.i, .string a.t, .string a.i, .string r.t, .string r.i]) := by
  have UC := fun (n : Int) w' => uid5_any n [] none 0 w' (by decide) (by decide) (fun j hj => absurd hj (Nat.not_lt_zero _))
  simp only [List.length_nil] at UC
  by_cases h4 : xs.length < 4
  · obtain ⟨N, hN⟩ : ∃ N, N = xs.length := ⟨_, rfl⟩
    rw [← hN] at h4 ⊢
    have i4 : (N : Int) < 4 := by omega
    clear hN hz
    obtain ⟨b2, z2, k1, k2, k3⟩ := ev3 w (.cells #[.slice none 0 0, .slice none 0 0] 39) (.cells #[.string ⟨#[]⟩, .string ⟨#[]⟩, .string ⟨#[]⟩, .string ⟨#[]⟩, .string ⟨#[]⟩, .string ⟨#[]⟩] 34) (.cells #[.string ⟨#[]⟩, .string ⟨#[]⟩, .string ⟨#[]⟩, .string ⟨#[]⟩, .string ⟨#[]⟩, .string ⟨#[]⟩] 34)
    clear k1 k3 z2
    go_enter Tryz.func7, Tryz.ntmps7
    go_upto_region 2 with fail
    generalize ((w.alloc _).alloc _).alloc _ = w2 at *
    have U0 := UC 0 w2
    go_wp2_with fail
    refine U0.mono ?_
    rintro e w3 ⟨rfl, b3⟩
    have U1 := UC 3 w3
    go_wp2_with fail
    refine U1.mono ?_
    rintro e w4 ⟨rfl, b4⟩
    have U2' := UC 2 w4
    go_wp2_with fail
    refine U2'.mono ?_
    rintro e w5 ⟨rfl, b5⟩
    have B5 := b2.trans ((b3.trans ((b4.trans (b5.mono b4.size)).mono b3.size)).mono b2.size)
    have r5 := kept_of_below b5 (kept_of_below b4 (kept_of_below b3 k2))
    generalize ba (tyI5 0) = s0 at *
    generalize ba (tyI5 3) = s1 at *
    generalize ba (tyI5 2) = s2 at *
    generalize ba (idt5 []) = s3 at *
    have z0 : w5.cell? ⟨w.heap.size + 1, 0, none⟩ = some (.string ⟨#[]⟩) := by rw [Lib.cell_of_heap r5]; rfl
    have z1 : w5.cell? ⟨w.heap.size + 1, 1, none⟩ = some (.string ⟨#[]⟩) := by rw [Lib.cell_of_heap r5]; rfl
    have z2 : w5.cell? ⟨w.heap.size + 1, 2, none⟩ = some (.string ⟨#[]⟩) := by rw [Lib.cell_of_heap r5]; rfl
    have z3 : w5.cell? ⟨w.heap.size + 1, 3, none⟩ = some (.string ⟨#[]⟩) := by rw [Lib.cell_of_heap r5]; rfl
    have z4 : w5.cell? ⟨w.heap.size + 1, 4, none⟩ = some (.string ⟨#[]⟩) := by rw [Lib.cell_of_heap r5]; rfl
    have z5 : w5.cell? ⟨w.heap.size + 1, 5, none⟩ = some (.string ⟨#[]⟩) := by rw [Lib.cell_of_heap r5]; rfl
    have zf : ∀ o, w5.frozen? ⟨w.heap.size + 1, o, none⟩ = false := fun o => Lib.frozen_of_heap r5 o
    have HB := hide (belowSetCells (b := w.heap.size + 1) [.string s0, .string s3, .string s1, .string s3, .string s2, .string s3] 0 w5 B5 (Nat.le_succ _))
    clear r5 k2 U0 U1 U2' UC B5
    go_wp2
    exact bodyPost_ret (v := .agg #[.string s0, .string s3, .string s1, .string s3, .string s2, .string s3]) (by simp [results, Tryz.results7, go_sem, z0, z1, z2, z3, z4, z5]) rfl ⟨unhide HB, ⟨s0, s3⟩, ⟨s1, s3⟩, ⟨s2, s3⟩, rfl⟩
  · obtain ⟨b, off, rfl, hb, c0⟩ := hz 0 (by omega)
    obtain ⟨b', off', e', _, c1⟩ := hz 1 (by omega)
    cases e'
    obtain ⟨b', off', e', _, c2⟩ := hz 2 (by omega)
    cases e'
    generalize xs[0] = x0 at *
    generalize xs[1] = x1 at *
    generalize xs[2] = x2 at *
    obtain ⟨N, hN⟩ : ∃ N, N = xs.length := ⟨_, rfl⟩
    rw [← hN] at h4 ⊢
    have i4 : ¬ (N : Int) < 4 := by omega
    have n0 : (0 : Nat) < N := by omega
    have n1 : (1 : Nat) < N := by omega
    have n2 : (2 : Nat) < N := by omega
    have m0 : (0 : Int) < (N : Int) := by omega
    have m1 : (1 : Int) < (N : Int) := by omega
    have m2 : (2 : Int) < (N : Int) := by omega
    clear hN hz h4
    obtain ⟨b3, z3, k1, k2, k3⟩ := ev3 w (.cells #[.slice none 0 0, .slice none 0 0] 39) (.cells #[.string ⟨#[]⟩, .string ⟨#[]⟩, .string ⟨#[]⟩, .string ⟨#[]⟩, .string ⟨#[]⟩, .string ⟨#[]⟩] 34) (.cells #[.string ⟨#[]⟩, .string ⟨#[]⟩, .string ⟨#[]⟩, .string ⟨#[]⟩, .string ⟨#[]⟩, .string ⟨#[]⟩] 34)
    have c0 := (b3.cell (p := ⟨b, off + 0, none⟩) hb).trans c0
    have c1 := (b3.cell (p := ⟨b, off + 1, none⟩) hb).trans c1
    have c2 := (b3.cell (p := ⟨b, off + 2, none⟩) hb).trans c2
    rw [Nat.add_zero] at c0
    have hb3 := Nat.lt_of_lt_of_le hb b3.size
    clear z3 hb
    go_enter Tryz.func7, Tryz.ntmps7
    go_upto_region 2 with fail
    generalize ((w.alloc _).alloc _).alloc _ = w3 at *
    go_upto_region 4 with fail
    refine wp_specsH 13 (fun _ => true) (rqSp b off N sc x0 x1 x2) (DRm 13 w3 (fun w9 => Below w.heap.size w w9 ∧ w9.heap[w.heap.size + 2]? = some (.cells #[.string (ba (tyI5 x0)), .string (ba (idt5 [])), .string (ba (tyI5 x1)), .string (ba (idt5 [])), .string (ba (tyI5 x2)), .string (ba (idt5 []))] 34 (0, 0)) ∧ w9.heap[w.heap.size]? = some (.cells #[.slice none 0 0, .slice none 0 0] 39 (0, 0)) ∧ w9.heap[w.heap.size + 1]? = some (.cells #[.string ⟨#[]⟩, .string ⟨#[]⟩, .string ⟨#[]⟩, .string ⟨#[]⟩, .string ⟨#[]⟩, .string ⟨#[]⟩] 34 (0, 0)))) (by kernel_rfl) (by kernel_rfl) (by kernel_rfl) (.inl ⟨rfl, (Below.refl _ w3).drew⟩) ?_ ?_ ?_ ?_ ?_ ?_
    · intro i o ho a' w' hdep
      match i, ho with
      | 0, ho =>
        cases ho
        exact want_none rfl
      | 1, ho =>
        cases ho
        exact want_none rfl
      | 2, ho =>
        cases ho
        exact want_none rfl
      | 3, ho =>
        cases ho
        exact want_none rfl
      | 4, ho =>
        cases ho
        exact want_none rfl
      | 5, ho =>
        cases ho
        exact want_none rfl
      | 6, ho =>
        cases ho
        exact want_none rfl
      | 7, ho =>
        cases ho
        exact want_none rfl
      | 8, ho =>
        cases ho
        exact want_none rfl
      | 9, ho =>
        cases ho
        exact want_none rfl
      | 10, ho =>
        cases ho
        exact want_none rfl
      | 11, ho =>
        cases ho
        exact want_none rfl
      | 12, ho =>
        cases ho
        exact want_none rfl
      | 13, ho =>
        cases ho
        exact want_none rfl
      | i + 14, ho => exact absurd (List.getElem?_eq_some_iff.1 ho).1 (by simp)
    · intro i o hi' ho hwf
      cases hwf
    · intro i hi
      rfl
    · intro i o hi' hwi ho L a' w' hL hw hR hdep hslot hsz K hK
      have hb := hR.below hi' hL
      have y0 : w'.cell? ⟨b, off, none⟩ = some (.int .i64 x0) := (hb.cell (p := ⟨b, off, none⟩) hb3).trans c0
      have y1 : w'.cell? ⟨b, off + 1, none⟩ = some (.int .i64 x1) := (hb.cell (p := ⟨b, off + 1, none⟩) hb3).trans c1
      have y2 : w'.cell? ⟨b, off + 2, none⟩ = some (.int .i64 x2) := (hb.cell (p := ⟨b, off + 2, none⟩) hb3).trans c2
      have hst := fun (w'' : World) (v : Value) (hb2 : Below w'.heap.size w' w'') => hR.step (a' := a'.put o.dst v) hi' hL hb2
      have HST := hide hst
      clear hst
      match i, hi' with
      | 0, _ =>
        cases ho
        have e2 : a'.tmps.getD 2 undef = .slice (some ⟨b, off, none⟩) N sc := hslot 2 (by decide)
        clear UC hsz
        unfold Oper.wp
        go_simp
        exact hK _ _ rfl (unhide HST _ _ (Below.refl _ w')) (fun _ _ h => h)
      | 1, _ =>
        cases ho
        have e0 : a'.tmps.getD 17 undef = .slice (some ⟨b, off, none⟩) N sc := hdep 0 (by decide) (by kernel_rfl)
        have e0' : a'.tmps[17]?.getD undef = .slice (some ⟨b, off, none⟩) N sc := by simpa using e0
        clear UC hsz
        unfold Oper.wp
        go_simp
        exact hK _ _ rfl (unhide HST _ _ (Below.refl _ w')) (fun _ _ h => h)
      | 2, _ =>
        cases ho
        have e1 : a'.tmps.getD 18 undef = .pointer (some ⟨b, off, none⟩) := hdep 1 (by decide) (by kernel_rfl)
        have e1' : a'.tmps[18]?.getD undef = .pointer (some ⟨b, off, none⟩) := by simpa using e1
        clear UC hsz
        unfold Oper.wp
        go_simp
        exact hK _ _ rfl (unhide HST _ _ (Below.refl _ w')) (fun _ _ h => h)
      | 3, _ =>
        cases ho
        have e2 : a'.tmps.getD 19 undef = .int .i64 x0 := hdep 2 (by decide) (by kernel_rfl)
        have e2' : a'.tmps[19]?.getD undef = .int .i64 x0 := by simpa using e2
        have C := UC x0 w'
        clear UC hsz
        unfold Oper.wp
        go_simp
        refine C.mono ?_
        rintro e w7 ⟨rfl, b7⟩
        exact hK _ _ rfl (unhide HST _ _ b7) (fun j u h => rqSp_up j u h)
      | 4, _ =>
        cases ho
        have e2 : a'.tmps.getD 2 undef = .slice (some ⟨b, off, none⟩) N sc := hslot 2 (by decide)
        clear UC hsz
        unfold Oper.wp
        go_simp
        exact hK _ _ rfl (unhide HST _ _ (Below.refl _ w')) (fun _ _ h => h)
      | 5, _ =>
        cases ho
        have e4 : a'.tmps.getD 21 undef = .slice (some ⟨b, off, none⟩) N sc := hdep 4 (by decide) (by kernel_rfl)
        have e4' : a'.tmps[21]?.getD undef = .slice (some ⟨b, off, none⟩) N sc := by simpa using e4
        clear UC hsz
        unfold Oper.wp
        go_simp
        exact hK _ _ rfl (unhide HST _ _ (Below.refl _ w')) (fun _ _ h => h)
      | 6, _ =>
        cases ho
        have e5 : a'.tmps.getD 22 undef = .pointer (some ⟨b, off + 1, none⟩) := hdep 5 (by decide) (by kernel_rfl)
        have e5' : a'.tmps[22]?.getD undef = .pointer (some ⟨b, off + 1, none⟩) := by simpa using e5
        clear UC hsz
        unfold Oper.wp
        go_simp
        exact hK _ _ rfl (unhide HST _ _ (Below.refl _ w')) (fun _ _ h => h)
      | 7, _ =>
        cases ho
        have e6 : a'.tmps.getD 23 undef = .int .i64 x1 := hdep 6 (by decide) (by kernel_rfl)
        have e6' : a'.tmps[23]?.getD undef = .int .i64 x1 := by simpa using e6
        have C := UC x1 w'
        clear UC hsz
        unfold Oper.wp
        go_simp
        refine C.mono ?_
        rintro e w7 ⟨rfl, b7⟩
        exact hK _ _ rfl (unhide HST _ _ b7) (fun j u h => rqSp_up j u h)
      | 8, _ =>
        cases ho
        have e2 : a'.tmps.getD 2 undef = .slice (some ⟨b, off, none⟩) N sc := hslot 2 (by decide)
        clear UC hsz
        unfold Oper.wp
        go_simp
        exact hK _ _ rfl (unhide HST _ _ (Below.refl _ w')) (fun _ _ h => h)
      | 9, _ =>
        cases ho
        have e8 : a'.tmps.getD 25 undef = .slice (some ⟨b, off, none⟩) N sc := hdep 8 (by decide) (by kernel_rfl)
        have e8' : a'.tmps[25]?.getD undef = .slice (some ⟨b, off, none⟩) N sc := by simpa using e8
        clear UC hsz
        unfold Oper.wp
        go_simp
        exact hK _ _ rfl (unhide HST _ _ (Below.refl _ w')) (fun _ _ h => h)
      | 10, _ =>
        cases ho
        have e9 : a'.tmps.getD 26 undef = .pointer (some ⟨b, off + 2, none⟩) := hdep 9 (by decide) (by kernel_rfl)
        have e9' : a'.tmps[26]?.getD undef = .pointer (some ⟨b, off + 2, none⟩) := by simpa using e9
        clear UC hsz
        unfold Oper.wp
        go_simp
        exact hK _ _ rfl (unhide HST _ _ (Below.refl _ w')) (fun _ _ h => h)
      | 11, _ =>
        cases ho
        have e10 : a'.tmps.getD 27 undef = .int .i64 x2 := hdep 10 (by decide) (by kernel_rfl)
        have e10' : a'.tmps[27]?.getD undef = .int .i64 x2 := by simpa using e10
        have C := UC x2 w'
        clear UC hsz
        unfold Oper.wp
        go_simp
        refine C.mono ?_
        rintro e w7 ⟨rfl, b7⟩
        exact hK _ _ rfl (unhide HST _ _ b7) (fun j u h => rqSp_up j u h)
      | 12, _ =>
        cases ho
        have e3 : a'.tmps.getD 20 undef = .agg #[.string (ba (tyI5 x0)), .string (ba (idt5 []))] := hdep 3 (by decide) (by kernel_rfl)
        have e3' : a'.tmps[20]?.getD undef = .agg #[.string (ba (tyI5 x0)), .string (ba (idt5 []))] := by simpa using e3
        have e7 : a'.tmps.getD 24 undef = .agg #[.string (ba (tyI5 x1)), .string (ba (idt5 []))] := hdep 7 (by decide) (by kernel_rfl)
        have e7' : a'.tmps[24]?.getD undef = .agg #[.string (ba (tyI5 x1)), .string (ba (idt5 []))] := by simpa using e7
        have e11 : a'.tmps.getD 28 undef = .agg #[.string (ba (tyI5 x2)), .string (ba (idt5 []))] := hdep 11 (by decide) (by kernel_rfl)
        have e11' : a'.tmps[28]?.getD undef = .agg #[.string (ba (tyI5 x2)), .string (ba (idt5 []))] := by simpa using e11
        clear UC hsz
        unfold Oper.wp
        go_simp
        exact hK _ _ rfl (unhide HST _ _ (Below.refl _ w')) (fun _ _ h => h)
      | i + 13, h => exact absurd h (by omega)
    · intro i o hi' ho L a' w' hL hw hR hdep hslot K hK
      have : i = 13 := by
        have h := (List.getElem?_eq_some_iff.1 ho).1
        simp only [List.length_cons, List.length_nil] at h
        omega
      subst this
      cases ho
      have e6 : a'.tmps.getD 7 undef = .pointer (some ⟨w.heap.size + 2, 0, none⟩) := hslot 7 (by decide)
      have hall : ∀ j, j < 13 → L j = true := fun j hj => by
        match j, hj with
        | 0, _ => exact hw 0 (by kernel_rfl)
        | 1, _ => exact hw 1 (by kernel_rfl)
        | 2, _ => exact hw 2 (by kernel_rfl)
        | 3, _ => exact hw 3 (by kernel_rfl)
        | 4, _ => exact hw 4 (by kernel_rfl)
        | 5, _ => exact hw 5 (by kernel_rfl)
        | 6, _ => exact hw 6 (by kernel_rfl)
        | 7, _ => exact hw 7 (by kernel_rfl)
        | 8, _ => exact hw 8 (by kernel_rfl)
        | 9, _ => exact hw 9 (by kernel_rfl)
        | 10, _ => exact hw 10 (by kernel_rfl)
        | 11, _ => exact hw 11 (by kernel_rfl)
        | 12, _ => exact hw 12 (by kernel_rfl)
        | j + 13, h => exact absurd h (by omega)
      have e12 : a'.tmps.getD 29 undef = .agg #[.string (ba (tyI5 x0)), .string (ba (idt5 [])), .string (ba (tyI5 x1)), .string (ba (idt5 [])), .string (ba (tyI5 x2)), .string (ba (idt5 []))] := hdep 12 (by decide) (by kernel_rfl)
      have hb := hR.low hL
      have hK7 := kept_of_below hb k3
      have hKs := kept_of_below hb k1
      have hKr := kept_of_below hb k2
      have z0 : w'.cell? ⟨w.heap.size + 2, 0, none⟩ = some (.string ⟨#[]⟩) := by rw [Lib.cell_of_heap hK7]; rfl
      have z1 : w'.cell? ⟨w.heap.size + 2, 1, none⟩ = some (.string ⟨#[]⟩) := by rw [Lib.cell_of_heap hK7]; rfl
      have z2 : w'.cell? ⟨w.heap.size + 2, 2, none⟩ = some (.string ⟨#[]⟩) := by rw [Lib.cell_of_heap hK7]; rfl
      have z3 : w'.cell? ⟨w.heap.size + 2, 3, none⟩ = some (.string ⟨#[]⟩) := by rw [Lib.cell_of_heap hK7]; rfl
      have z4 : w'.cell? ⟨w.heap.size + 2, 4, none⟩ = some (.string ⟨#[]⟩) := by rw [Lib.cell_of_heap hK7]; rfl
      have z5 : w'.cell? ⟨w.heap.size + 2, 5, none⟩ = some (.string ⟨#[]⟩) := by rw [Lib.cell_of_heap hK7]; rfl
      have zf : ∀ o, w'.frozen? ⟨w.heap.size + 2, o, none⟩ = false := fun o => Lib.frozen_of_heap hK7 o
      have hnew : (w'.setCells (w.heap.size + 2) 0 [.string (ba (tyI5 x0)), .string (ba (idt5 [])), .string (ba (tyI5 x1)), .string (ba (idt5 [])), .string (ba (tyI5 x2)), .string (ba (idt5 []))]).heap[w.heap.size + 2]? = some (.cells #[.string (ba (tyI5 x0)), .string (ba (idt5 [])), .string (ba (tyI5 x1)), .string (ba (idt5 [])), .string (ba (tyI5 x2)), .string (ba (idt5 []))] 34 (0, 0)) := by
        have h1 := heap_setCell_same w' (w.heap.size + 2) 0 _ _ (.string (ba (tyI5 x0))) hK7
        have h2 := heap_setCell_same _ (w.heap.size + 2) 1 _ _ (.string (ba (idt5 []))) h1
        have h3 := heap_setCell_same _ (w.heap.size + 2) 2 _ _ (.string (ba (tyI5 x1))) h2
        have h4 := heap_setCell_same _ (w.heap.size + 2) 3 _ _ (.string (ba (idt5 []))) h3
        have h5 := heap_setCell_same _ (w.heap.size + 2) 4 _ _ (.string (ba (tyI5 x2))) h4
        exact heap_setCell_same _ (w.heap.size + 2) 5 _ _ (.string (ba (idt5 []))) h5
      have hfin : DRm 13 w3 (fun w9 => Below w.heap.size w w9 ∧ w9.heap[w.heap.size + 2]? = some (.cells #[.string (ba (tyI5 x0)), .string (ba (idt5 [])), .string (ba (tyI5 x1)), .string (ba (idt5 [])), .string (ba (tyI5 x2)), .string (ba (idt5 []))] 34 (0, 0)) ∧ w9.heap[w.heap.size]? = some (.cells #[.slice none 0 0, .slice none 0 0] 39 (0, 0)) ∧ w9.heap[w.heap.size + 1]? = some (.cells #[.string ⟨#[]⟩, .string ⟨#[]⟩, .string ⟨#[]⟩, .string ⟨#[]⟩, .string ⟨#[]⟩, .string ⟨#[]⟩] 34 (0, 0))) (fun j => decide (j = 13) || L j) a' (w'.setCells (w.heap.size + 2) 0 [.string (ba (tyI5 x0)), .string (ba (idt5 [])), .string (ba (tyI5 x1)), .string (ba (idt5 [])), .string (ba (tyI5 x2)), .string (ba (idt5 []))]) :=
        .inr ⟨by simp, fun j hj => by simp [hall j hj], belowSetCells _ _ _ (b3.trans (hb.mono b3.size)) (by omega), hnew, (heap_setCells (by omega) _ _ _).trans hKs, (heap_setCells (by omega) _ _ _).trans hKr⟩
      have HF := hide hfin
      clear hfin hnew hK7 hKs hKr hR hdep hw UC hall hL hslot
      have hK : ∀ v, K (a'.put none v) (w'.setCells (w.heap.size + 2) 0 [.string (ba (tyI5 x0)), .string (ba (idt5 [])), .string (ba (tyI5 x1)), .string (ba (idt5 [])), .string (ba (tyI5 x2)), .string (ba (idt5 []))]) := fun v => hK _ (unhide HF) (fun j u h => rqSp_up j u h) v
      generalize ba (tyI5 x0) = s0 at *
      generalize ba (tyI5 x1) = s1 at *
      generalize ba (tyI5 x2) = s2 at *
      generalize ba (idt5 []) = s3 at *
      unfold Oper.wp
      go_simp
      exact hK undef
    · intro v L w9 hall hR hsp
      obtain ⟨b9, h9, hs9, hr9⟩ := hR.fin (hall 13 (by decide))
      clear hR hall hsp UC
      generalize ba (tyI5 x0) = s0 at *
      generalize ba (tyI5 x1) = s1 at *
      generalize ba (tyI5 x2) = s2 at *
      generalize ba (idt5 []) = s3 at *
      simp only [putAll, dstOf, List.getElem?_cons_zero, List.getElem?_cons_succ, Option.bind_some]
      simp only [Act.put, List.setIfInBounds_toArray, List.set_cons_succ, List.set_cons_zero]
      generalize v 0 = v0
      generalize v 1 = v1
      generalize v 2 = v2
      generalize v 3 = v3
      generalize v 4 = v4
      generalize v 5 = v5
      generalize v 6 = v6
      generalize v 7 = v7
      generalize v 8 = v8
      generalize v 9 = v9
      generalize v 10 = v10
      generalize v 11 = v11
      generalize v 12 = v12
      have s0c : w9.cell? ⟨w.heap.size, 0, none⟩ = some (.slice none 0 0) := by rw [Lib.cell_of_heap hs9]; rfl
      have s1c : w9.cell? ⟨w.heap.size, 1, none⟩ = some (.slice none 0 0) := by rw [Lib.cell_of_heap hs9]; rfl
      go_wp2_with fail
      refine (noEnvs_any w9).mono ?_
      clear s0c s1c
      rintro e w10 ⟨rfl, b10⟩
      have h10 := kept_of_below b10 h9
      have r10 := kept_of_below b10 hr9
      have B10 := b9.trans (b10.mono b9.size)
      have q0 : w10.cell? ⟨w.heap.size + 2, 0, none⟩ = some (.string s0) := by rw [Lib.cell_of_heap h10]; rfl
      have q1 : w10.cell? ⟨w.heap.size + 2, 1, none⟩ = some (.string s3) := by rw [Lib.cell_of_heap h10]; rfl
      have q2 : w10.cell? ⟨w.heap.size + 2, 2, none⟩ = some (.string s1) := by rw [Lib.cell_of_heap h10]; rfl
      have q3 : w10.cell? ⟨w.heap.size + 2, 3, none⟩ = some (.string s3) := by rw [Lib.cell_of_heap h10]; rfl
      have q4 : w10.cell? ⟨w.heap.size + 2, 4, none⟩ = some (.string s2) := by rw [Lib.cell_of_heap h10]; rfl
      have q5 : w10.cell? ⟨w.heap.size + 2, 5, none⟩ = some (.string s3) := by rw [Lib.cell_of_heap h10]; rfl
      have z0 : w10.cell? ⟨w.heap.size + 1, 0, none⟩ = some (.string ⟨#[]⟩) := by rw [Lib.cell_of_heap r10]; rfl
      have z1 : w10.cell? ⟨w.heap.size + 1, 1, none⟩ = some (.string ⟨#[]⟩) := by rw [Lib.cell_of_heap r10]; rfl
      have z2 : w10.cell? ⟨w.heap.size + 1, 2, none⟩ = some (.string ⟨#[]⟩) := by rw [Lib.cell_of_heap r10]; rfl
      have z3 : w10.cell? ⟨w.heap.size + 1, 3, none⟩ = some (.string ⟨#[]⟩) := by rw [Lib.cell_of_heap r10]; rfl
      have z4 : w10.cell? ⟨w.heap.size + 1, 4, none⟩ = some (.string ⟨#[]⟩) := by rw [Lib.cell_of_heap r10]; rfl
      have z5 : w10.cell? ⟨w.heap.size + 1, 5, none⟩ = some (.string ⟨#[]⟩) := by rw [Lib.cell_of_heap r10]; rfl
      have zf : ∀ o, w10.frozen? ⟨w.heap.size + 1, o, none⟩ = false := fun o => Lib.frozen_of_heap r10 o
      have HB := hide (belowSetCells (b := w.heap.size + 1) [.string s0, .string s3, .string s1, .string s3, .string s2, .string s3] 0 w10 B10 (Nat.le_succ _))
      clear h9 hs9 hr9 h10 r10 b9 b10 B10
      go_wp2
      exact bodyPost_ret (v := .agg #[.string s0, .string s3, .string s1, .string s3, .string s2, .string s3]) (by simp [results, Tryz.results7, go_sem, z0, z1, z2, z3, z4, z5]) rfl ⟨unhide HB, ⟨s0, s3⟩, ⟨s1, s3⟩, ⟨s2, s3⟩, rfl⟩
end Go.Proofs.YtacljmckohbjaaaGreat

namespace Go.Proofs.YtacljmckohbjaaaGreat
open Go.RowKit Go.Sort

def lzSp (ra rb : R4) : Nat → Value → World → Prop
  | 0, v, _ => v = ra.val
  | 2, v, _ => v = rb.val
  | _, _, _ => True
theorem lzSp_up {ra rb : R4} {w' w'' : World} (j : Nat) (u : Value) (h : lzSp ra rb j u w') : lzSp ra rb j u w'' := by
  match j with
  | 0 | 2 => exact h
  | 1 => trivial
  | _ + 3 => trivial
theorem isE_b (w : World) (b : Bool) : IsE w PT ⟨1, b, 0, ⟨#[]⟩, ⟨#[]⟩, ⟨#[]⟩, none, 0, 0⟩ (eBool b) := isE_leaf w 1 b 0 [] [] [] 0 none

set_option maxHeartbeats 16000000 in
set_option maxRecDepth 1000000 in
theorem elazy_walk (lo : Option Addr) (rs : List EntR) (lc : Nat) (ra rb : R4) (ya yb : Rw) (so : Option Addr) (xs : List Int) (sc : Nat) (w : World) (hl : rs.length ≤ 9223372036854775807) (hr : RowEnt w lo rs) (hA : IsR w ra ya) (hB : IsR w rb yb) (hz : IntsAt w so xs) (hf : FitL w) :
    Calls Tryz.prog 3 #[.slice lo rs.length lc, ra.val, rb.val, .slice so xs.length sc] w fun e w' => e = .returned (.bool true) ∧ Below w.heap.size w w' := by
  have HR := hide hr
  have HZ := hide hz
  have HA := hide hA
  have HB := hide hB
  obtain ⟨b2, z2, kA, kB⟩ := ev2 w (.cells #[.int .i64 ra.op, .int .i64 ra.n, .slice ra.so ra.sl ra.sc, .slice ra.lo ra.ll ra.lc] 26) (.cells #[.int .i64 rb.op, .int .i64 rb.n, .slice rb.so rb.sl rb.sc, .slice rb.lo rb.ll rb.lc] 26)
  clear hr hz hA hB z2
  unfold R4.val
  go_enter Tryz.func3, Tryz.ntmps3
  go_upto_region 1 with fail
  generalize (w.alloc _).alloc _ = w2 at *
  go_wp2_with fail
  refine (known13_any w2 (hf.below b2)).mono ?_
  rintro _ w3 ⟨rfl, b3⟩
  have B3 := b2.trans (b3.mono b2.size)
  have kA3 := kept_of_below b3 kA
  have kB3 := kept_of_below b3 kB
  have qa0 : w3.cell? ⟨w.heap.size, 0, none⟩ = some (.int .i64 ra.op) := by rw [Lib.cell_of_heap kA3]; rfl
  have qa1 : w3.cell? ⟨w.heap.size, 1, none⟩ = some (.int .i64 ra.n) := by rw [Lib.cell_of_heap kA3]; rfl
  have qa2 : w3.cell? ⟨w.heap.size, 2, none⟩ = some (.slice ra.so ra.sl ra.sc) := by rw [Lib.cell_of_heap kA3]; rfl
  have qa3 : w3.cell? ⟨w.heap.size, 3, none⟩ = some (.slice ra.lo ra.ll ra.lc) := by rw [Lib.cell_of_heap kA3]; rfl
  have FA := few5_any (depR ya) ya ra w3 60 (Nat.le_refl _) (IsR.below B3 _ _ (unhide HA)) (by decide) (by decide)
  unfold R4.val at FA
  generalize fewR ya 60 = fa at *
  go_wp2_with fail
  refine FA.mono ?_
  clear FA qa0 qa1 qa2 qa3
  rintro _ w4 ⟨rfl, b4⟩
  have B4 := B3.trans (b4.mono B3.size)
  have kA4 := kept_of_below b4 kA3
  have kB4 := kept_of_below b4 kB3
  clear kA kB kA3 kB3
  by_cases h1 : fa = 0
  · subst h1
    go_wp2
    go_ret
    exact ⟨rfl, B4⟩
  have g1 : (fa == 0) = false := by simpa using h1
  have HH1 := hide h1
  clear h1
  have qb0 : w4.cell? ⟨(w.heap.size + 1), 0, none⟩ = some (.int .i64 rb.op) := by rw [Lib.cell_of_heap kB4]; rfl
  have qb1 : w4.cell? ⟨(w.heap.size + 1), 1, none⟩ = some (.int .i64 rb.n) := by rw [Lib.cell_of_heap kB4]; rfl
  have qb2 : w4.cell? ⟨(w.heap.size + 1), 2, none⟩ = some (.slice rb.so rb.sl rb.sc) := by rw [Lib.cell_of_heap kB4]; rfl
  have qb3 : w4.cell? ⟨(w.heap.size + 1), 3, none⟩ = some (.slice rb.lo rb.ll rb.lc) := by rw [Lib.cell_of_heap kB4]; rfl
  have FB := few5_any (depR yb) yb rb w4 60 (Nat.le_refl _) (IsR.below B4 _ _ (unhide HB)) (by decide) (by decide)
  unfold R4.val at FB
  generalize fewR yb 60 = fb at *
  go_wp2_with fail
  refine FB.mono ?_
  clear FB qb0 qb1 qb2 qb3
  rintro _ w5 ⟨rfl, b5⟩
  have B5 := B4.trans (b5.mono B4.size)
  have kA5 := kept_of_below b5 kA4
  have kB5 := kept_of_below b5 kB4
  clear kA4 kB4
  by_cases h2 : fb = 0
  · subst h2
    go_wp2
    go_ret
    exact ⟨rfl, B5⟩
  have g2 : (fb == 0) = false := by simpa using h2
  clear h2
  have G := good8_any lo rs lc w5 hl ((unhide HR).below B5)
  have HOK := hide (unhide HR).2
  obtain ⟨f, hfw⟩ := way_dec (upS (goodsL rs))
  have HEWG := hide (fun (wx : World) (go : Option Addr) (gs : List E4) (h1 : RowG wx go 4 (gs.map E4.cells)) (h2 : AllEnt wx (fun _ => True) gs (goodsL rs)) (h3 : FitL wx) (p a r : U2) => ew_goods (p := p) (a := a) (r := r) (unhide HOK) h1 h2 h3 hfw)
  generalize goodsL rs = ps at *
  clear HOK hfw
  go_wp2_with fail
  refine G.mono ?_
  clear G
  rintro _ w7 ⟨b57, go, gcap, gs, rfl, hgr, hgA, hgc, hgn⟩
  have B7 := B5.trans (b57.mono B5.size)
  have HEW := hide (fun (wx : World) (hb : Below w7.heap.size w7 wx) (p a r : U2) => unhide HEWG wx go gs (hgr.below hb) (hgA.below hb) (hf.below (B7.trans (hb.mono B7.size))) p a r)
  have kA7 := kept_of_below b57 kA5
  have kB7 := kept_of_below b57 kB5
  have RQ := req13_any (.slice go gs.length gcap) so xs sc w7 ((unhide HZ).below B7)
  clear hgr hgA hgn hgc HEWG hf HR HZ b57 kA5 kB5
  go_wp2_with fail
  refine RQ.mono ?_
  clear RQ
  rintro _ w8 ⟨b8, p, a, r, rfl⟩
  have b9 := ev1 w8 (.cells #[.string p.t, .string p.i, .string a.t, .string a.i, .string r.t, .string r.i] 34)
  have q9 := alloc_heap w8 (.cells #[.string p.t, .string p.i, .string a.t, .string a.i, .string r.t, .string r.i] 34)
  have b79 := b8.trans (b9.mono b8.size)
  have kA9 := kept_of_below b79 kA7
  have kB9 := kept_of_below b79 kB7
  obtain ⟨Qb, hQd⟩ : ∃ Qb, Qb = w8.heap.size := ⟨_, rfl⟩
  have HS := hide (And.intro q9 (And.intro b79 (And.intro kA9 kB9)))
  clear q9 b79 kA9 kB9 b9 b8 kA7 kB7
  go_upto_region 7 with fail
  obtain ⟨q9, b79, kA9, kB9⟩ := unhide HS
  clear HS
  generalize w8.alloc _ = wR at *
  rw [← hQd] at q9 ⊢
  clear hQd
  have B9 := B7.trans (b79.mono B7.size)
  have TX := fun w' (hb : Below wR.heap.size wR w') => tree5_any 8 ya ra w' (by decide) (IsR.below (B9.trans (hb.mono B9.size)) _ _ (unhide HA))
  have TY := fun w' (hb : Below wR.heap.size wR w') => tree5_any 8 yb rb w' (by decide) (IsR.below (B9.trans (hb.mono B9.size)) _ _ (unhide HB))
  rw [show (.int .i64 ((8 : Nat) : Int) : Value) = .int .i64 8 from rfl] at TX TY
  unfold R4.val at TX TY
  have okX := tree_okEv 8 ya
  have okY := tree_okEv 8 yb
  generalize treeX 8 ya = X at *
  generalize treeX 8 yb = Y at *
  have qa0 : wR.cell? ⟨w.heap.size, 0, none⟩ = some (.int .i64 ra.op) := by rw [Lib.cell_of_heap kA9]; rfl
  have qa1 : wR.cell? ⟨w.heap.size, 1, none⟩ = some (.int .i64 ra.n) := by rw [Lib.cell_of_heap kA9]; rfl
  have qa2 : wR.cell? ⟨w.heap.size, 2, none⟩ = some (.slice ra.so ra.sl ra.sc) := by rw [Lib.cell_of_heap kA9]; rfl
  have qa3 : wR.cell? ⟨w.heap.size, 3, none⟩ = some (.slice ra.lo ra.ll ra.lc) := by rw [Lib.cell_of_heap kA9]; rfl
  have qb0 : wR.cell? ⟨(w.heap.size + 1), 0, none⟩ = some (.int .i64 rb.op) := by rw [Lib.cell_of_heap kB9]; rfl
  have qb1 : wR.cell? ⟨(w.heap.size + 1), 1, none⟩ = some (.int .i64 rb.n) := by rw [Lib.cell_of_heap kB9]; rfl
  have qb2 : wR.cell? ⟨(w.heap.size + 1), 2, none⟩ = some (.slice rb.so rb.sl rb.sc) := by rw [Lib.cell_of_heap kB9]; rfl
  have qb3 : wR.cell? ⟨(w.heap.size + 1), 3, none⟩ = some (.slice rb.lo rb.ll rb.lc) := by rw [Lib.cell_of_heap kB9]; rfl
  have hAl : w.heap.size < wR.heap.size := (Array.getElem?_eq_some_iff.1 kA9).1
  have hBl : w.heap.size + 1 < wR.heap.size := (Array.getElem?_eq_some_iff.1 kB9).1
  have HQ9 := hide q9
  clear kA9 kB9 q9
  refine wp_specsH 6 (fun _ => true) (lzSp ra rb) (RtT wR X Y) (by kernel_rfl) (by kernel_rfl) (by kernel_rfl) (RtT.start _ rfl rfl) ?_ ?_ ?_ ?_ ?_ ?_
  · intro i o ho a' w' hdep
    match i, ho with
    | 0, ho =>
      cases ho
      exact want_none rfl
    | 1, ho =>
      cases ho
      exact want_none rfl
    | 2, ho =>
      cases ho
      exact want_none rfl
    | 3, ho =>
      cases ho
      exact want_none rfl
    | 4, ho =>
      cases ho
      exact want_none rfl
    | 5, ho =>
      cases ho
      exact want_none rfl
    | 6, ho =>
      cases ho
      exact want_none rfl
    | 7, ho =>
      cases ho
      exact want_none rfl
    | i + 8, ho => exact absurd (List.getElem?_eq_some_iff.1 ho).1 (by simp)
  · intro i o hi' ho hwf
    cases hwf
  · intro i hi
    rfl
  · intro i o hi' hwi ho Lb a' w' hL hw hR hdep hslot hsz K hK
    match i, hi' with
    | 0, _ =>
      cases ho
      have e5 : a'.tmps.getD 5 undef = .pointer (some ⟨w.heap.size, 0, none⟩) := hslot 5 (by decide)
      have y0 : w'.cell? ⟨w.heap.size, 0, none⟩ = some (.int .i64 ra.op) := (hR.bel.cell (p := ⟨w.heap.size, 0, none⟩) hAl).trans qa0
      have y1 : w'.cell? ⟨w.heap.size, 1, none⟩ = some (.int .i64 ra.n) := (hR.bel.cell (p := ⟨w.heap.size, 1, none⟩) hAl).trans qa1
      have y2 : w'.cell? ⟨w.heap.size, 2, none⟩ = some (.slice ra.so ra.sl ra.sc) := (hR.bel.cell (p := ⟨w.heap.size, 2, none⟩) hAl).trans qa2
      have y3 : w'.cell? ⟨w.heap.size, 3, none⟩ = some (.slice ra.lo ra.ll ra.lc) := (hR.bel.cell (p := ⟨w.heap.size, 3, none⟩) hAl).trans qa3
      have hR2 := hide (hR.keep 0 41 (.agg #[.int .i64 ra.op, .int .i64 ra.n, .slice ra.so ra.sl ra.sc, .slice ra.lo ra.ll ra.lc]) (by decide) (by decide))
      clear hR
      unfold Oper.wp
      go_simp
      exact hK _ _ rfl (unhide hR2) (fun _ _ h => h)
    | 1, _ =>
      cases ho
      have e0 : a'.tmps.getD 41 undef = .agg #[.int .i64 ra.op, .int .i64 ra.n, .slice ra.so ra.sl ra.sc, .slice ra.lo ra.ll ra.lc] := hdep 0 (by decide) (by kernel_rfl)
      have e0' : a'.tmps[41]?.getD undef = .agg #[.int .i64 ra.op, .int .i64 ra.n, .slice ra.so ra.sl ra.sc, .slice ra.lo ra.ll ra.lc] := by simpa using e0
      have h6 : Lb 6 = false := by
        cases h : Lb 6 with
        | false => rfl
        | true => rw [hR.w6 h] at hL; cases hL
      have C := TX w' hR.bel
      have HS := hide hsz
      clear TX TY hsz
      unfold Oper.wp
      go_simp
      refine C.mono ?_
      rintro e w7 ⟨q, rfl, b7, hq⟩
      exact hK _ _ trivial (hR.callX h6 (by rw [unhide HS]; exact Nat.le_of_ble_eq_true (by kernel_rfl)) q b7 hq) (fun j u h => lzSp_up j u h)
    | 2, _ =>
      cases ho
      have e5 : a'.tmps.getD 6 undef = .pointer (some ⟨(w.heap.size + 1), 0, none⟩) := hslot 6 (by decide)
      have y0 : w'.cell? ⟨(w.heap.size + 1), 0, none⟩ = some (.int .i64 rb.op) := (hR.bel.cell (p := ⟨(w.heap.size + 1), 0, none⟩) hBl).trans qb0
      have y1 : w'.cell? ⟨(w.heap.size + 1), 1, none⟩ = some (.int .i64 rb.n) := (hR.bel.cell (p := ⟨(w.heap.size + 1), 1, none⟩) hBl).trans qb1
      have y2 : w'.cell? ⟨(w.heap.size + 1), 2, none⟩ = some (.slice rb.so rb.sl rb.sc) := (hR.bel.cell (p := ⟨(w.heap.size + 1), 2, none⟩) hBl).trans qb2
      have y3 : w'.cell? ⟨(w.heap.size + 1), 3, none⟩ = some (.slice rb.lo rb.ll rb.lc) := (hR.bel.cell (p := ⟨(w.heap.size + 1), 3, none⟩) hBl).trans qb3
      have hR2 := hide (hR.keep 2 43 (.agg #[.int .i64 rb.op, .int .i64 rb.n, .slice rb.so rb.sl rb.sc, .slice rb.lo rb.ll rb.lc]) (by decide) (by decide))
      clear hR
      unfold Oper.wp
      go_simp
      exact hK _ _ rfl (unhide hR2) (fun _ _ h => h)
    | 3, _ =>
      cases ho
      have e0 : a'.tmps.getD 43 undef = .agg #[.int .i64 rb.op, .int .i64 rb.n, .slice rb.so rb.sl rb.sc, .slice rb.lo rb.ll rb.lc] := hdep 2 (by decide) (by kernel_rfl)
      have e0' : a'.tmps[43]?.getD undef = .agg #[.int .i64 rb.op, .int .i64 rb.n, .slice rb.so rb.sl rb.sc, .slice rb.lo rb.ll rb.lc] := by simpa using e0
      have h6 : Lb 7 = false := by
        cases h : Lb 7 with
        | false => rfl
        | true => rw [hR.w7 h] at hL; cases hL
      have C := TY w' hR.bel
      have HS := hide hsz
      clear TX TY hsz
      unfold Oper.wp
      go_simp
      refine C.mono ?_
      rintro e w7 ⟨q, rfl, b7, hq⟩
      exact hK _ _ trivial (hR.callY h6 (by rw [unhide HS]; exact Nat.le_of_ble_eq_true (by kernel_rfl)) q b7 hq) (fun j u h => lzSp_up j u h)
    | 4, _ =>
      cases ho
      have hA2 := hide (hR.allocX hL (by rw [hsz]; exact Nat.le_of_ble_eq_true (by kernel_rfl)))
      clear hR hsz
      unfold Oper.wp
      go_simp
      exact hK _ _ trivial (unhide hA2) (fun j u h => lzSp_up j u h)
    | 5, _ =>
      cases ho
      have hA2 := hide (hR.allocY hL (by rw [hsz]; exact Nat.le_of_ble_eq_true (by kernel_rfl)))
      clear hR hsz
      unfold Oper.wp
      go_simp
      exact hK _ _ trivial (unhide hA2) (fun j u h => lzSp_up j u h)
    | i + 6, h => exact absurd h (by omega)
  · intro i o hi' ho Lb a' w' hL hw hR hdep hslot K hK
    have h := (List.getElem?_eq_some_iff.1 ho).1
    simp only [List.length_cons, List.length_nil] at h
    match i, hi', h with
    | 6, _, _ =>
      cases ho
      have h1 : Lb 1 = true := hw 1 (by kernel_rfl)
      have h4 : Lb 4 = true := hw 4 (by kernel_rfl)
      obtain ⟨B, hB, hB1, hB2, hBz⟩ := hR.px h4
      obtain ⟨q, hq, hE, _⟩ := hR.tx h1
      have hz : w'.heap[B]? = some zObj := hBz hL
      have y0 : w'.cell? ⟨B, 0, none⟩ = some (.int .i64 0) := by rw [Lib.cell_of_heap hz]; rfl
      have y1 : w'.cell? ⟨B, 1, none⟩ = some (.bool false) := by rw [Lib.cell_of_heap hz]; rfl
      have y2 : w'.cell? ⟨B, 2, none⟩ = some (.int .i64 0) := by rw [Lib.cell_of_heap hz]; rfl
      have y3 : w'.cell? ⟨B, 3, none⟩ = some (.string ⟨#[]⟩) := by rw [Lib.cell_of_heap hz]; rfl
      have y4 : w'.cell? ⟨B, 4, none⟩ = some (.string ⟨#[]⟩) := by rw [Lib.cell_of_heap hz]; rfl
      have y5 : w'.cell? ⟨B, 5, none⟩ = some (.string ⟨#[]⟩) := by rw [Lib.cell_of_heap hz]; rfl
      have y6 : w'.cell? ⟨B, 6, none⟩ = some (.slice none 0 0) := by rw [Lib.cell_of_heap hz]; rfl
      have yf : ∀ o, w'.frozen? ⟨B, o, none⟩ = false := fun o => Lib.frozen_of_heap hz o
      have e1 : a'.tmps.getD 11 undef = .pointer (some ⟨B, 0, none⟩) := hB
      have e2 : a'.tmps.getD 42 undef = .agg #[.int .i64 q.k, .bool q.b, .int .i64 q.n, .string q.s, .string q.t, .string q.i, .slice q.lo q.ll q.lc] := hq
      have hS := hide (hR.stX h1 h4 hB hq hE (size_setCells _ _ _) (show (w'.setCells B 0 [.int .i64 q.k, .bool q.b, .int .i64 q.n, .string q.s, .string q.t, .string q.i, .slice q.lo q.ll q.lc]).heap[B]? = _ from heap_setCell_same _ B 6 _ _ (.slice q.lo q.ll q.lc) (heap_setCell_same _ B 5 _ _ (.string q.i) (heap_setCell_same _ B 4 _ _ (.string q.t) (heap_setCell_same _ B 3 _ _ (.string q.s) (heap_setCell_same _ B 2 _ _ (.int .i64 q.n) (heap_setCell_same _ B 1 _ _ (.bool q.b) (heap_setCell_same w' B 0 _ _ (.int .i64 q.k) hz))))))) (fun b hb => heap_setCells hb _ _ _) (belowSetCells _ _ _ hR.bel hB1))
      clear hR hw hdep hz hE hq hB hslot TX TY
      have hK : ∀ v, K (a'.put none v) (w'.setCells B 0 [.int .i64 q.k, .bool q.b, .int .i64 q.n, .string q.s, .string q.t, .string q.i, .slice q.lo q.ll q.lc]) := fun v => hK _ (unhide hS) (fun j u h => lzSp_up j u h) v
      unfold Oper.wp
      go_simp
      exact hK undef
    | 7, _, _ =>
      cases ho
      have h1 : Lb 3 = true := hw 3 (by kernel_rfl)
      have h4 : Lb 5 = true := hw 5 (by kernel_rfl)
      obtain ⟨B, hB, hB1, hB2, hBz⟩ := hR.py h4
      obtain ⟨q, hq, hE, _⟩ := hR.ty h1
      have hz : w'.heap[B]? = some zObj := hBz hL
      have y0 : w'.cell? ⟨B, 0, none⟩ = some (.int .i64 0) := by rw [Lib.cell_of_heap hz]; rfl
      have y1 : w'.cell? ⟨B, 1, none⟩ = some (.bool false) := by rw [Lib.cell_of_heap hz]; rfl
      have y2 : w'.cell? ⟨B, 2, none⟩ = some (.int .i64 0) := by rw [Lib.cell_of_heap hz]; rfl
      have y3 : w'.cell? ⟨B, 3, none⟩ = some (.string ⟨#[]⟩) := by rw [Lib.cell_of_heap hz]; rfl
      have y4 : w'.cell? ⟨B, 4, none⟩ = some (.string ⟨#[]⟩) := by rw [Lib.cell_of_heap hz]; rfl
      have y5 : w'.cell? ⟨B, 5, none⟩ = some (.string ⟨#[]⟩) := by rw [Lib.cell_of_heap hz]; rfl
      have y6 : w'.cell? ⟨B, 6, none⟩ = some (.slice none 0 0) := by rw [Lib.cell_of_heap hz]; rfl
      have yf : ∀ o, w'.frozen? ⟨B, o, none⟩ = false := fun o => Lib.frozen_of_heap hz o
      have e1 : a'.tmps.getD 12 undef = .pointer (some ⟨B, 0, none⟩) := hB
      have e2 : a'.tmps.getD 44 undef = .agg #[.int .i64 q.k, .bool q.b, .int .i64 q.n, .string q.s, .string q.t, .string q.i, .slice q.lo q.ll q.lc] := hq
      have hS := hide (hR.stY h1 h4 hB hq hE (size_setCells _ _ _) (show (w'.setCells B 0 [.int .i64 q.k, .bool q.b, .int .i64 q.n, .string q.s, .string q.t, .string q.i, .slice q.lo q.ll q.lc]).heap[B]? = _ from heap_setCell_same _ B 6 _ _ (.slice q.lo q.ll q.lc) (heap_setCell_same _ B 5 _ _ (.string q.i) (heap_setCell_same _ B 4 _ _ (.string q.t) (heap_setCell_same _ B 3 _ _ (.string q.s) (heap_setCell_same _ B 2 _ _ (.int .i64 q.n) (heap_setCell_same _ B 1 _ _ (.bool q.b) (heap_setCell_same w' B 0 _ _ (.int .i64 q.k) hz))))))) (fun b hb => heap_setCells hb _ _ _) (belowSetCells _ _ _ hR.bel hB1))
      clear hR hw hdep hz hE hq hB hslot TX TY
      have hK : ∀ v, K (a'.put none v) (w'.setCells B 0 [.int .i64 q.k, .bool q.b, .int .i64 q.n, .string q.s, .string q.t, .string q.i, .slice q.lo q.ll q.lc]) := fun v => hK _ (unhide hS) (fun j u h => lzSp_up j u h) v
      unfold Oper.wp
      go_simp
      exact hK undef
    | i + 8, _, h => exact absurd h (by omega)
    | 0, h, _ | 1, h, _ | 2, h, _ | 3, h, _ | 4, h, _ | 5, h, _ => exact absurd h (by omega)
  · intro v Lb wE hall hR hsp
    have h4 := hall 4 (by decide)
    have h5 := hall 5 (by decide)
    obtain ⟨BX, hX1, _, _, _⟩ := hR.px h4
    obtain ⟨BY, hY1, _, _, _⟩ := hR.py h5
    obtain ⟨qx, _, hqx, hxo⟩ := hR.tx (hall 1 (by decide))
    obtain ⟨qy, _, hqy, hyo⟩ := hR.ty (hall 3 (by decide))
    have kx := hxo (hall 6 (by decide)) BX hX1
    have ky := hyo (hall 7 (by decide)) BY hY1
    have bE := hR.bel
    have HIX := hide (show IsE wE PT qx X from IsE.turn (Nat.le_refl _) (fun b _ _ => ⟨rfl, trivial⟩) qx X hqx)
    have HIY := hide (show IsE wE PT qy Y from IsE.turn (Nat.le_refl _) (fun b _ _ => ⟨rfl, trivial⟩) qy Y hqy)
    clear hR hsp hall hxo hyo hqx hqy h4 h5
    simp only [putAll, dstOf, List.getElem?_cons_zero, List.getElem?_cons_succ, Option.bind_some, Act.put, List.setIfInBounds_toArray, List.set_cons_succ, List.set_cons_zero] at hX1 hY1 ⊢
    have e11 : v 4 = ptrV BX := by simpa using hX1
    have e12 : v 5 = ptrV BY := by simpa using hY1
    unfold ptrV at e11 e12
    rw [e11, e12]
    clear e11 e12 hX1 hY1
    generalize v 0 = v0
    generalize v 1 = v1
    generalize v 2 = v2
    generalize v 3 = v3
    have HBW := hide (b79.trans (bE.mono b79.size))
    have q10 := kept_of_below bE (unhide HQ9)
    have b11 := (ev2 wE (.cells #[.int .i64 1, .bool true, .int .i64 0, .string ⟨#[]⟩, .string ⟨#[]⟩, .string ⟨#[]⟩, .slice none 0 0] 42) (.cells #[.int .i64 1, .bool false, .int .i64 0, .string ⟨#[]⟩, .string ⟨#[]⟩, .string ⟨#[]⟩, .slice none 0 0] 42)).1
    have t11 := (ev2 wE (.cells #[.int .i64 1, .bool true, .int .i64 0, .string ⟨#[]⟩, .string ⟨#[]⟩, .string ⟨#[]⟩, .slice none 0 0] 42) (.cells #[.int .i64 1, .bool false, .int .i64 0, .string ⟨#[]⟩, .string ⟨#[]⟩, .string ⟨#[]⟩, .slice none 0 0] 42)).2.2.1
    have f11 := (ev2 wE (.cells #[.int .i64 1, .bool true, .int .i64 0, .string ⟨#[]⟩, .string ⟨#[]⟩, .string ⟨#[]⟩, .slice none 0 0] 42) (.cells #[.int .i64 1, .bool false, .int .i64 0, .string ⟨#[]⟩, .string ⟨#[]⟩, .string ⟨#[]⟩, .slice none 0 0] 42)).2.2.2
    obtain ⟨TB, hTB⟩ : ∃ TB, TB = wE.heap.size := ⟨_, rfl⟩
    have HBW2 := hide ((unhide HBW).trans (b11.mono (unhide HBW).size))
    have HQ := hide (kept_of_below b11 q10)
    have HX := hide (kept_of_below b11 kx)
    have HY := hide (kept_of_below b11 ky)
    have HN1 := hide t11
    have HN0 := hide f11
    have HIX2 := hide (liftX (unhide HIX) b11)
    have HIY2 := hide (liftX (unhide HIY) b11)
    clear q10 kx ky t11 f11 HIX HIY b11 bE HBW
    go_upto_region 9 with fail
    generalize (wE.alloc _).alloc _ = w11 at *
    rw [← hTB] at HN1 HN0 ⊢
    clear hTB
    obtain ⟨FB, hFB⟩ : ∃ FB, FB = TB + 1 := ⟨_, rfl⟩
    rw [← hFB] at HN0 ⊢
    clear hFB
    unfold qObj at HX HY
    have HBW := HBW2
    clear HBW2
    have HIX := HIX2
    clear HIX2
    have HIY := HIY2
    clear HIY2
    obtain ⟨rr, hrr⟩ : ∃ rr, rr = evalE (⟨p, a, r, ps, f⟩ : EvD) X := ⟨_, rfl⟩
    have HREV := hide hrr
    clear hrr
    have cq0 : w11.cell? ⟨Qb, 0, none⟩ = some (.string p.t) := by rw [Lib.cell_of_heap (unhide HQ)]; rfl
    have cq1 : w11.cell? ⟨Qb, 1, none⟩ = some (.string p.i) := by rw [Lib.cell_of_heap (unhide HQ)]; rfl
    have cq2 : w11.cell? ⟨Qb, 2, none⟩ = some (.string a.t) := by rw [Lib.cell_of_heap (unhide HQ)]; rfl
    have cq3 : w11.cell? ⟨Qb, 3, none⟩ = some (.string a.i) := by rw [Lib.cell_of_heap (unhide HQ)]; rfl
    have cq4 : w11.cell? ⟨Qb, 4, none⟩ = some (.string r.t) := by rw [Lib.cell_of_heap (unhide HQ)]; rfl
    have cq5 : w11.cell? ⟨Qb, 5, none⟩ = some (.string r.i) := by rw [Lib.cell_of_heap (unhide HQ)]; rfl
    have cx0 : w11.cell? ⟨BX, 0, none⟩ = some (.int .i64 qx.k) := by rw [Lib.cell_of_heap (unhide HX)]; rfl
    have cx1 : w11.cell? ⟨BX, 1, none⟩ = some (.bool qx.b) := by rw [Lib.cell_of_heap (unhide HX)]; rfl
    have cx2 : w11.cell? ⟨BX, 2, none⟩ = some (.int .i64 qx.n) := by rw [Lib.cell_of_heap (unhide HX)]; rfl
    have cx3 : w11.cell? ⟨BX, 3, none⟩ = some (.string qx.s) := by rw [Lib.cell_of_heap (unhide HX)]; rfl
    have cx4 : w11.cell? ⟨BX, 4, none⟩ = some (.string qx.t) := by rw [Lib.cell_of_heap (unhide HX)]; rfl
    have cx5 : w11.cell? ⟨BX, 5, none⟩ = some (.string qx.i) := by rw [Lib.cell_of_heap (unhide HX)]; rfl
    have cx6 : w11.cell? ⟨BX, 6, none⟩ = some (.slice qx.lo qx.ll qx.lc) := by rw [Lib.cell_of_heap (unhide HX)]; rfl
    have okT : okEv (X) = true := okX
    have CO := expr13_any go gs gs.length gcap (⟨p, a, r, ps, f⟩ : EvD) X ⟨qx.k, qx.b, qx.n, qx.s, qx.t, qx.i, qx.lo, qx.ll, qx.lc⟩ w11 rfl (unhide HEW w11 (unhide HBW) p a r) (unhide HIX) okT
    have hbk := Below.refl w11.heap.size w11
    have HBWk := HBW
    rw [← unhide HREV] at CO
    clear okT
    go_wp2_with fail
    refine CO.mono ?_
    clear CO cq0 cq1 cq2 cq3 cq4 cq5 cx0 cx1 cx2 cx3 cx4 cx5 cx6
    rintro _ wm ⟨⟨R1, k1, rfl, hm1⟩, bm⟩
    have HM1 := hide (show MatE wm rr R1 k1 from hm1)
    clear hm1
    have bv := ev1 wm (.cells #[.int .i64 R1.k, .bool R1.b, .int .i64 R1.n, .string R1.s, .string R1.t, .string R1.i, .slice R1.lo R1.ll R1.lc] 46)
    have hv := alloc_heap wm (.cells #[.int .i64 R1.k, .bool R1.b, .int .i64 R1.n, .string R1.s, .string R1.t, .string R1.i, .slice R1.lo R1.ll R1.lc] 46)
    have bb := hbk.trans ((bm.trans (bv.mono bm.size)).mono hbk.size)
    obtain ⟨V1, hV1⟩ : ∃ V, V = wm.heap.size := ⟨_, rfl⟩
    have HBW2 := hide ((unhide HBW).trans (bb.mono (unhide HBW).size))
    have HQ2 := hide (kept_of_below bb (unhide HQ))
    have HX2 := hide (kept_of_below bb (unhide HX))
    have HY2 := hide (kept_of_below bb (unhide HY))
    have HN12 := hide (kept_of_below bb (unhide HN1))
    have HN02 := hide (kept_of_below bb (unhide HN0))
    have HM12 := hide ((unhide HM1).below bv)
    have HIX2 := hide (liftX (unhide HIX) bb)
    have HIY2 := hide (liftX (unhide HIY) bb)
    have HV12 := hide hv
    clear hv bb bv bm hbk HBW HBWk HIX HIY HQ HX HY HN1 HN0   HM1
    go_upto_region 10 with fail
    generalize wm.alloc _ = w12 at *
    rw [← hV1] at HV12 ⊢
    clear hV1
    have HBW := HBW2
    clear HBW2
    have HIX := HIX2
    clear HIX2
    have HIY := HIY2
    clear HIY2
    have HQ := HQ2
    clear HQ2
    have HX := HX2
    clear HX2
    have HY := HY2
    clear HY2
    have HN1 := HN12
    clear HN12
    have HN0 := HN02
    clear HN02
    have HV1 := HV12
    clear HV12
    have HM1 := HM12
    clear HM12
    have cq0 : w12.cell? ⟨Qb, 0, none⟩ = some (.string p.t) := by rw [Lib.cell_of_heap (unhide HQ)]; rfl
    have cq1 : w12.cell? ⟨Qb, 1, none⟩ = some (.string p.i) := by rw [Lib.cell_of_heap (unhide HQ)]; rfl
    have cq2 : w12.cell? ⟨Qb, 2, none⟩ = some (.string a.t) := by rw [Lib.cell_of_heap (unhide HQ)]; rfl
    have cq3 : w12.cell? ⟨Qb, 3, none⟩ = some (.string a.i) := by rw [Lib.cell_of_heap (unhide HQ)]; rfl
    have cq4 : w12.cell? ⟨Qb, 4, none⟩ = some (.string r.t) := by rw [Lib.cell_of_heap (unhide HQ)]; rfl
    have cq5 : w12.cell? ⟨Qb, 5, none⟩ = some (.string r.i) := by rw [Lib.cell_of_heap (unhide HQ)]; rfl
    have ct0 : w12.cell? ⟨TB, 0, none⟩ = some (.int .i64 1) := by rw [Lib.cell_of_heap (unhide HN1)]; rfl
    have ct1 : w12.cell? ⟨TB, 1, none⟩ = some (.bool true) := by rw [Lib.cell_of_heap (unhide HN1)]; rfl
    have ct2 : w12.cell? ⟨TB, 2, none⟩ = some (.int .i64 0) := by rw [Lib.cell_of_heap (unhide HN1)]; rfl
    have ct3 : w12.cell? ⟨TB, 3, none⟩ = some (.string ⟨#[]⟩) := by rw [Lib.cell_of_heap (unhide HN1)]; rfl
    have ct4 : w12.cell? ⟨TB, 4, none⟩ = some (.string ⟨#[]⟩) := by rw [Lib.cell_of_heap (unhide HN1)]; rfl
    have ct5 : w12.cell? ⟨TB, 5, none⟩ = some (.string ⟨#[]⟩) := by rw [Lib.cell_of_heap (unhide HN1)]; rfl
    have ct6 : w12.cell? ⟨TB, 6, none⟩ = some (.slice none 0 0) := by rw [Lib.cell_of_heap (unhide HN1)]; rfl
    have cx0 : w12.cell? ⟨BX, 0, none⟩ = some (.int .i64 qx.k) := by rw [Lib.cell_of_heap (unhide HX)]; rfl
    have cx1 : w12.cell? ⟨BX, 1, none⟩ = some (.bool qx.b) := by rw [Lib.cell_of_heap (unhide HX)]; rfl
    have cx2 : w12.cell? ⟨BX, 2, none⟩ = some (.int .i64 qx.n) := by rw [Lib.cell_of_heap (unhide HX)]; rfl
    have cx3 : w12.cell? ⟨BX, 3, none⟩ = some (.string qx.s) := by rw [Lib.cell_of_heap (unhide HX)]; rfl
    have cx4 : w12.cell? ⟨BX, 4, none⟩ = some (.string qx.t) := by rw [Lib.cell_of_heap (unhide HX)]; rfl
    have cx5 : w12.cell? ⟨BX, 5, none⟩ = some (.string qx.i) := by rw [Lib.cell_of_heap (unhide HX)]; rfl
    have cx6 : w12.cell? ⟨BX, 6, none⟩ = some (.slice qx.lo qx.ll qx.lc) := by rw [Lib.cell_of_heap (unhide HX)]; rfl
    have cy0 : w12.cell? ⟨BY, 0, none⟩ = some (.int .i64 qy.k) := by rw [Lib.cell_of_heap (unhide HY)]; rfl
    have cy1 : w12.cell? ⟨BY, 1, none⟩ = some (.bool qy.b) := by rw [Lib.cell_of_heap (unhide HY)]; rfl
    have cy2 : w12.cell? ⟨BY, 2, none⟩ = some (.int .i64 qy.n) := by rw [Lib.cell_of_heap (unhide HY)]; rfl
    have cy3 : w12.cell? ⟨BY, 3, none⟩ = some (.string qy.s) := by rw [Lib.cell_of_heap (unhide HY)]; rfl
    have cy4 : w12.cell? ⟨BY, 4, none⟩ = some (.string qy.t) := by rw [Lib.cell_of_heap (unhide HY)]; rfl
    have cy5 : w12.cell? ⟨BY, 5, none⟩ = some (.string qy.i) := by rw [Lib.cell_of_heap (unhide HY)]; rfl
    have cy6 : w12.cell? ⟨BY, 6, none⟩ = some (.slice qy.lo qy.ll qy.lc) := by rw [Lib.cell_of_heap (unhide HY)]; rfl
    have okT : okEv (ifT (eBool true) X Y) = true := okEv_3 (okEv_b true) okX okY
    have hbk := ev1 w12 (.cells #[.int .i64 1, .bool true, .int .i64 0, .string ⟨#[]⟩, .string ⟨#[]⟩, .string ⟨#[]⟩, .slice none 0 0, .int .i64 qx.k, .bool qx.b, .int .i64 qx.n, .string qx.s, .string qx.t, .string qx.i, .slice qx.lo qx.ll qx.lc, .int .i64 qy.k, .bool qy.b, .int .i64 qy.n, .string qy.s, .string qy.t, .string qy.i, .slice qy.lo qy.ll qy.lc] 42)
    have hkk := alloc_heap w12 (.cells #[.int .i64 1, .bool true, .int .i64 0, .string ⟨#[]⟩, .string ⟨#[]⟩, .string ⟨#[]⟩, .slice none 0 0, .int .i64 qx.k, .bool qx.b, .int .i64 qx.n, .string qx.s, .string qx.t, .string qx.i, .slice qx.lo qx.ll qx.lc, .int .i64 qy.k, .bool qy.b, .int .i64 qy.n, .string qy.s, .string qy.t, .string qy.i, .slice qy.lo qy.ll qy.lc] 42)
    have HBWk := hide ((unhide HBW).trans (hbk.mono (unhide HBW).size))
    have CO := expr13_any go gs gs.length gcap (⟨p, a, r, ps, f⟩ : EvD) (ifT (eBool true) X Y) ⟨25, false, 0, ⟨#[]⟩, ⟨#[]⟩, ⟨#[]⟩, some ⟨w12.heap.size, 0, none⟩, 3, 3⟩ _ rfl (unhide HEW _ (unhide HBWk) p a r) (isE_node (s := []) (t := []) (i := []) rfl (isEs_block [⟨1, true, 0, ⟨#[]⟩, ⟨#[]⟩, ⟨#[]⟩, none, 0, 0⟩, qx, qy] [eBool true, X, Y] hkk rfl (.cons (isE_b _ true) (.cons (liftX (unhide HIX) hbk) (.cons (liftX (unhide HIY) hbk) .nil))))) okT
    rw [eval_ifY] at CO
    rw [← unhide HREV] at CO
    clear okT hkk
    go_wp2_with fail
    generalize w12.alloc _ = wk at *
    refine CO.mono ?_
    clear CO cq0 cq1 cq2 cq3 cq4 cq5 ct0 ct1 ct2 ct3 ct4 ct5 ct6 cx0 cx1 cx2 cx3 cx4 cx5 cx6 cy0 cy1 cy2 cy3 cy4 cy5 cy6
    rintro _ wm ⟨⟨R2, k2, rfl, hm2⟩, bm⟩
    have HM2 := hide (show MatE wm rr R2 k2 from hm2)
    clear hm2
    have bv := ev1 wm (.cells #[.int .i64 R2.k, .bool R2.b, .int .i64 R2.n, .string R2.s, .string R2.t, .string R2.i, .slice R2.lo R2.ll R2.lc] 46)
    have hv := alloc_heap wm (.cells #[.int .i64 R2.k, .bool R2.b, .int .i64 R2.n, .string R2.s, .string R2.t, .string R2.i, .slice R2.lo R2.ll R2.lc] 46)
    have bb := hbk.trans ((bm.trans (bv.mono bm.size)).mono hbk.size)
    obtain ⟨V2, hV2⟩ : ∃ V, V = wm.heap.size := ⟨_, rfl⟩
    have HBW2 := hide ((unhide HBW).trans (bb.mono (unhide HBW).size))
    have HQ2 := hide (kept_of_below bb (unhide HQ))
    have HX2 := hide (kept_of_below bb (unhide HX))
    have HY2 := hide (kept_of_below bb (unhide HY))
    have HN12 := hide (kept_of_below bb (unhide HN1))
    have HN02 := hide (kept_of_below bb (unhide HN0))
    have HM12 := hide ((unhide HM1).below bb)
    have HM22 := hide ((unhide HM2).below bv)
    have HIX2 := hide (liftX (unhide HIX) bb)
    have HIY2 := hide (liftX (unhide HIY) bb)
    have HV12 := hide (kept_of_below bb (unhide HV1))
    have HV22 := hide hv
    clear hv bb bv bm hbk HBW HBWk HIX HIY HQ HX HY HN1 HN0 HV1 HM1 HM2
    go_upto_region 11 with fail
    generalize wm.alloc _ = w13 at *
    rw [← hV2] at HV22 ⊢
    clear hV2
    have HBW := HBW2
    clear HBW2
    have HIX := HIX2
    clear HIX2
    have HIY := HIY2
    clear HIY2
    have HQ := HQ2
    clear HQ2
    have HX := HX2
    clear HX2
    have HY := HY2
    clear HY2
    have HN1 := HN12
    clear HN12
    have HN0 := HN02
    clear HN02
    have HV1 := HV12
    clear HV12
    have HV2 := HV22
    clear HV22
    have HM1 := HM12
    clear HM12
    have HM2 := HM22
    clear HM22
    have cq0 : w13.cell? ⟨Qb, 0, none⟩ = some (.string p.t) := by rw [Lib.cell_of_heap (unhide HQ)]; rfl
    have cq1 : w13.cell? ⟨Qb, 1, none⟩ = some (.string p.i) := by rw [Lib.cell_of_heap (unhide HQ)]; rfl
    have cq2 : w13.cell? ⟨Qb, 2, none⟩ = some (.string a.t) := by rw [Lib.cell_of_heap (unhide HQ)]; rfl
    have cq3 : w13.cell? ⟨Qb, 3, none⟩ = some (.string a.i) := by rw [Lib.cell_of_heap (unhide HQ)]; rfl
    have cq4 : w13.cell? ⟨Qb, 4, none⟩ = some (.string r.t) := by rw [Lib.cell_of_heap (unhide HQ)]; rfl
    have cq5 : w13.cell? ⟨Qb, 5, none⟩ = some (.string r.i) := by rw [Lib.cell_of_heap (unhide HQ)]; rfl
    have cf0 : w13.cell? ⟨FB, 0, none⟩ = some (.int .i64 1) := by rw [Lib.cell_of_heap (unhide HN0)]; rfl
    have cf1 : w13.cell? ⟨FB, 1, none⟩ = some (.bool false) := by rw [Lib.cell_of_heap (unhide HN0)]; rfl
    have cf2 : w13.cell? ⟨FB, 2, none⟩ = some (.int .i64 0) := by rw [Lib.cell_of_heap (unhide HN0)]; rfl
    have cf3 : w13.cell? ⟨FB, 3, none⟩ = some (.string ⟨#[]⟩) := by rw [Lib.cell_of_heap (unhide HN0)]; rfl
    have cf4 : w13.cell? ⟨FB, 4, none⟩ = some (.string ⟨#[]⟩) := by rw [Lib.cell_of_heap (unhide HN0)]; rfl
    have cf5 : w13.cell? ⟨FB, 5, none⟩ = some (.string ⟨#[]⟩) := by rw [Lib.cell_of_heap (unhide HN0)]; rfl
    have cf6 : w13.cell? ⟨FB, 6, none⟩ = some (.slice none 0 0) := by rw [Lib.cell_of_heap (unhide HN0)]; rfl
    have cy0 : w13.cell? ⟨BY, 0, none⟩ = some (.int .i64 qy.k) := by rw [Lib.cell_of_heap (unhide HY)]; rfl
    have cy1 : w13.cell? ⟨BY, 1, none⟩ = some (.bool qy.b) := by rw [Lib.cell_of_heap (unhide HY)]; rfl
    have cy2 : w13.cell? ⟨BY, 2, none⟩ = some (.int .i64 qy.n) := by rw [Lib.cell_of_heap (unhide HY)]; rfl
    have cy3 : w13.cell? ⟨BY, 3, none⟩ = some (.string qy.s) := by rw [Lib.cell_of_heap (unhide HY)]; rfl
    have cy4 : w13.cell? ⟨BY, 4, none⟩ = some (.string qy.t) := by rw [Lib.cell_of_heap (unhide HY)]; rfl
    have cy5 : w13.cell? ⟨BY, 5, none⟩ = some (.string qy.i) := by rw [Lib.cell_of_heap (unhide HY)]; rfl
    have cy6 : w13.cell? ⟨BY, 6, none⟩ = some (.slice qy.lo qy.ll qy.lc) := by rw [Lib.cell_of_heap (unhide HY)]; rfl
    have cx0 : w13.cell? ⟨BX, 0, none⟩ = some (.int .i64 qx.k) := by rw [Lib.cell_of_heap (unhide HX)]; rfl
    have cx1 : w13.cell? ⟨BX, 1, none⟩ = some (.bool qx.b) := by rw [Lib.cell_of_heap (unhide HX)]; rfl
    have cx2 : w13.cell? ⟨BX, 2, none⟩ = some (.int .i64 qx.n) := by rw [Lib.cell_of_heap (unhide HX)]; rfl
    have cx3 : w13.cell? ⟨BX, 3, none⟩ = some (.string qx.s) := by rw [Lib.cell_of_heap (unhide HX)]; rfl
    have cx4 : w13.cell? ⟨BX, 4, none⟩ = some (.string qx.t) := by rw [Lib.cell_of_heap (unhide HX)]; rfl
    have cx5 : w13.cell? ⟨BX, 5, none⟩ = some (.string qx.i) := by rw [Lib.cell_of_heap (unhide HX)]; rfl
    have cx6 : w13.cell? ⟨BX, 6, none⟩ = some (.slice qx.lo qx.ll qx.lc) := by rw [Lib.cell_of_heap (unhide HX)]; rfl
    have okT : okEv (ifT (eBool false) Y X) = true := okEv_3 (okEv_b false) okY okX
    have hbk := ev1 w13 (.cells #[.int .i64 1, .bool false, .int .i64 0, .string ⟨#[]⟩, .string ⟨#[]⟩, .string ⟨#[]⟩, .slice none 0 0, .int .i64 qy.k, .bool qy.b, .int .i64 qy.n, .string qy.s, .string qy.t, .string qy.i, .slice qy.lo qy.ll qy.lc, .int .i64 qx.k, .bool qx.b, .int .i64 qx.n, .string qx.s, .string qx.t, .string qx.i, .slice qx.lo qx.ll qx.lc] 42)
    have hkk := alloc_heap w13 (.cells #[.int .i64 1, .bool false, .int .i64 0, .string ⟨#[]⟩, .string ⟨#[]⟩, .string ⟨#[]⟩, .slice none 0 0, .int .i64 qy.k, .bool qy.b, .int .i64 qy.n, .string qy.s, .string qy.t, .string qy.i, .slice qy.lo qy.ll qy.lc, .int .i64 qx.k, .bool qx.b, .int .i64 qx.n, .string qx.s, .string qx.t, .string qx.i, .slice qx.lo qx.ll qx.lc] 42)
    have HBWk := hide ((unhide HBW).trans (hbk.mono (unhide HBW).size))
    have CO := expr13_any go gs gs.length gcap (⟨p, a, r, ps, f⟩ : EvD) (ifT (eBool false) Y X) ⟨25, false, 0, ⟨#[]⟩, ⟨#[]⟩, ⟨#[]⟩, some ⟨w13.heap.size, 0, none⟩, 3, 3⟩ _ rfl (unhide HEW _ (unhide HBWk) p a r) (isE_node (s := []) (t := []) (i := []) rfl (isEs_block [⟨1, false, 0, ⟨#[]⟩, ⟨#[]⟩, ⟨#[]⟩, none, 0, 0⟩, qy, qx] [eBool false, Y, X] hkk rfl (.cons (isE_b _ false) (.cons (liftX (unhide HIY) hbk) (.cons (liftX (unhide HIX) hbk) .nil))))) okT
    rw [eval_ifN] at CO
    rw [← unhide HREV] at CO
    clear okT hkk
    go_wp2_with fail
    generalize w13.alloc _ = wk at *
    refine CO.mono ?_
    clear CO cq0 cq1 cq2 cq3 cq4 cq5 cf0 cf1 cf2 cf3 cf4 cf5 cf6 cy0 cy1 cy2 cy3 cy4 cy5 cy6 cx0 cx1 cx2 cx3 cx4 cx5 cx6
    rintro _ wm ⟨⟨R3, k3, rfl, hm3⟩, bm⟩
    have HM3 := hide (show MatE wm rr R3 k3 from hm3)
    clear hm3
    have bv := ev1 wm (.cells #[.int .i64 R3.k, .bool R3.b, .int .i64 R3.n, .string R3.s, .string R3.t, .string R3.i, .slice R3.lo R3.ll R3.lc] 46)
    have hv := alloc_heap wm (.cells #[.int .i64 R3.k, .bool R3.b, .int .i64 R3.n, .string R3.s, .string R3.t, .string R3.i, .slice R3.lo R3.ll R3.lc] 46)
    have bb := hbk.trans ((bm.trans (bv.mono bm.size)).mono hbk.size)
    obtain ⟨V3, hV3⟩ : ∃ V, V = wm.heap.size := ⟨_, rfl⟩
    have HBW2 := hide ((unhide HBW).trans (bb.mono (unhide HBW).size))
    have HQ2 := hide (kept_of_below bb (unhide HQ))
    have HX2 := hide (kept_of_below bb (unhide HX))
    have HY2 := hide (kept_of_below bb (unhide HY))
    have HN12 := hide (kept_of_below bb (unhide HN1))
    have HN02 := hide (kept_of_below bb (unhide HN0))
    have HM12 := hide ((unhide HM1).below bb)
    have HM22 := hide ((unhide HM2).below bb)
    have HM32 := hide ((unhide HM3).below bv)
    have HIX2 := hide (liftX (unhide HIX) bb)
    have HIY2 := hide (liftX (unhide HIY) bb)
    have HV12 := hide (kept_of_below bb (unhide HV1))
    have HV22 := hide (kept_of_below bb (unhide HV2))
    have HV32 := hide hv
    clear hv bb bv bm hbk HBW HBWk HIX HIY HQ HX HY HN1 HN0 HV1 HV2 HM1 HM2 HM3
    go_upto_region 12 with fail
    generalize wm.alloc _ = w14 at *
    rw [← hV3] at HV32 ⊢
    clear hV3
    have HBW := HBW2
    clear HBW2
    have HIX := HIX2
    clear HIX2
    have HIY := HIY2
    clear HIY2
    have HQ := HQ2
    clear HQ2
    have HX := HX2
    clear HX2
    have HY := HY2
    clear HY2
    have HN1 := HN12
    clear HN12
    have HN0 := HN02
    clear HN02
    have HV1 := HV12
    clear HV12
    have HV2 := HV22
    clear HV22
    have HV3 := HV32
    clear HV32
    have HM1 := HM12
    clear HM12
    have HM2 := HM22
    clear HM22
    have HM3 := HM32
    clear HM32
    have e2 : k2 = k1 := (unhide HM2).err (unhide HM1)
    have e3 : k3 = k1 := (unhide HM3).err (unhide HM1)
    subst e2 e3
    have S1 := (unhide HM2).same (unhide HM1)
    have c20 : w14.cell? ⟨V2, 0, none⟩ = some (.int .i64 R2.k) := by rw [Lib.cell_of_heap (unhide HV2)]; rfl
    have c21 : w14.cell? ⟨V2, 1, none⟩ = some (.bool R2.b) := by rw [Lib.cell_of_heap (unhide HV2)]; rfl
    have c22 : w14.cell? ⟨V2, 2, none⟩ = some (.int .i64 R2.n) := by rw [Lib.cell_of_heap (unhide HV2)]; rfl
    have c23 : w14.cell? ⟨V2, 3, none⟩ = some (.string R2.s) := by rw [Lib.cell_of_heap (unhide HV2)]; rfl
    have c24 : w14.cell? ⟨V2, 4, none⟩ = some (.string R2.t) := by rw [Lib.cell_of_heap (unhide HV2)]; rfl
    have c25 : w14.cell? ⟨V2, 5, none⟩ = some (.string R2.i) := by rw [Lib.cell_of_heap (unhide HV2)]; rfl
    have c26 : w14.cell? ⟨V2, 6, none⟩ = some (.slice R2.lo R2.ll R2.lc) := by rw [Lib.cell_of_heap (unhide HV2)]; rfl
    have c10 : w14.cell? ⟨V1, 0, none⟩ = some (.int .i64 R1.k) := by rw [Lib.cell_of_heap (unhide HV1)]; rfl
    have c11 : w14.cell? ⟨V1, 1, none⟩ = some (.bool R1.b) := by rw [Lib.cell_of_heap (unhide HV1)]; rfl
    have c12 : w14.cell? ⟨V1, 2, none⟩ = some (.int .i64 R1.n) := by rw [Lib.cell_of_heap (unhide HV1)]; rfl
    have c13 : w14.cell? ⟨V1, 3, none⟩ = some (.string R1.s) := by rw [Lib.cell_of_heap (unhide HV1)]; rfl
    have c14 : w14.cell? ⟨V1, 4, none⟩ = some (.string R1.t) := by rw [Lib.cell_of_heap (unhide HV1)]; rfl
    have c15 : w14.cell? ⟨V1, 5, none⟩ = some (.string R1.i) := by rw [Lib.cell_of_heap (unhide HV1)]; rfl
    have c16 : w14.cell? ⟨V1, 6, none⟩ = some (.slice R1.lo R1.ll R1.lc) := by rw [Lib.cell_of_heap (unhide HV1)]; rfl
    go_wp2_with fail
    refine S1.mono ?_
    clear S1 c20 c21 c22 c23 c24 c25 c26 c10 c11 c12 c13 c14 c15 c16
    rintro _ w15 ⟨rfl, b15⟩
    have HM35 := (unhide HM3).below b15
    have S2 := HM35.same ((unhide HM1).below b15)
    have v35 := kept_of_below b15 (unhide HV3)
    have v15 := kept_of_below b15 (unhide HV1)
    have c30 : w15.cell? ⟨V3, 0, none⟩ = some (.int .i64 R3.k) := by rw [Lib.cell_of_heap v35]; rfl
    have c31 : w15.cell? ⟨V3, 1, none⟩ = some (.bool R3.b) := by rw [Lib.cell_of_heap v35]; rfl
    have c32 : w15.cell? ⟨V3, 2, none⟩ = some (.int .i64 R3.n) := by rw [Lib.cell_of_heap v35]; rfl
    have c33 : w15.cell? ⟨V3, 3, none⟩ = some (.string R3.s) := by rw [Lib.cell_of_heap v35]; rfl
    have c34 : w15.cell? ⟨V3, 4, none⟩ = some (.string R3.t) := by rw [Lib.cell_of_heap v35]; rfl
    have c35 : w15.cell? ⟨V3, 5, none⟩ = some (.string R3.i) := by rw [Lib.cell_of_heap v35]; rfl
    have c36 : w15.cell? ⟨V3, 6, none⟩ = some (.slice R3.lo R3.ll R3.lc) := by rw [Lib.cell_of_heap v35]; rfl
    have c10 : w15.cell? ⟨V1, 0, none⟩ = some (.int .i64 R1.k) := by rw [Lib.cell_of_heap v15]; rfl
    have c11 : w15.cell? ⟨V1, 1, none⟩ = some (.bool R1.b) := by rw [Lib.cell_of_heap v15]; rfl
    have c12 : w15.cell? ⟨V1, 2, none⟩ = some (.int .i64 R1.n) := by rw [Lib.cell_of_heap v15]; rfl
    have c13 : w15.cell? ⟨V1, 3, none⟩ = some (.string R1.s) := by rw [Lib.cell_of_heap v15]; rfl
    have c14 : w15.cell? ⟨V1, 4, none⟩ = some (.string R1.t) := by rw [Lib.cell_of_heap v15]; rfl
    have c15 : w15.cell? ⟨V1, 5, none⟩ = some (.string R1.i) := by rw [Lib.cell_of_heap v15]; rfl
    have c16 : w15.cell? ⟨V1, 6, none⟩ = some (.slice R1.lo R1.ll R1.lc) := by rw [Lib.cell_of_heap v15]; rfl
    clear HM35 v35 v15
    go_wp2_with fail
    refine S2.mono ?_
    clear S2 c30 c31 c32 c33 c34 c35 c36 c10 c11 c12 c13 c14 c15 c16
    rintro _ w16 ⟨rfl, b16⟩
    have bb := b15.trans (b16.mono b15.size)
    have HBW2 := hide ((unhide HBW).trans (bb.mono (unhide HBW).size))
    have HQ2 := hide (kept_of_below bb (unhide HQ))
    have HX2 := hide (kept_of_below bb (unhide HX))
    have HY2 := hide (kept_of_below bb (unhide HY))
    have HN12 := hide (kept_of_below bb (unhide HN1))
    have HN02 := hide (kept_of_below bb (unhide HN0))
    have HIX2 := hide (liftX (unhide HIX) bb)
    have HIY2 := hide (liftX (unhide HIY) bb)
    clear bb b15 b16 HBW HIX HIY HV1 HV2 HV3 HM1 HM2 HM3 HQ HX HY HN1 HN0
    have HBW := HBW2
    clear HBW2
    have HIX := HIX2
    clear HIX2
    have HIY := HIY2
    clear HIY2
    have HQ := HQ2
    clear HQ2
    have HX := HX2
    clear HX2
    have HY := HY2
    clear HY2
    have HN1 := HN12
    clear HN12
    have HN0 := HN02
    clear HN02
    go_upto_region 14 with fail
    have cq0 : w16.cell? ⟨Qb, 0, none⟩ = some (.string p.t) := by rw [Lib.cell_of_heap (unhide HQ)]; rfl
    have cq1 : w16.cell? ⟨Qb, 1, none⟩ = some (.string p.i) := by rw [Lib.cell_of_heap (unhide HQ)]; rfl
    have cq2 : w16.cell? ⟨Qb, 2, none⟩ = some (.string a.t) := by rw [Lib.cell_of_heap (unhide HQ)]; rfl
    have cq3 : w16.cell? ⟨Qb, 3, none⟩ = some (.string a.i) := by rw [Lib.cell_of_heap (unhide HQ)]; rfl
    have cq4 : w16.cell? ⟨Qb, 4, none⟩ = some (.string r.t) := by rw [Lib.cell_of_heap (unhide HQ)]; rfl
    have cq5 : w16.cell? ⟨Qb, 5, none⟩ = some (.string r.i) := by rw [Lib.cell_of_heap (unhide HQ)]; rfl
    have cf0 : w16.cell? ⟨FB, 0, none⟩ = some (.int .i64 1) := by rw [Lib.cell_of_heap (unhide HN0)]; rfl
    have cf1 : w16.cell? ⟨FB, 1, none⟩ = some (.bool false) := by rw [Lib.cell_of_heap (unhide HN0)]; rfl
    have cf2 : w16.cell? ⟨FB, 2, none⟩ = some (.int .i64 0) := by rw [Lib.cell_of_heap (unhide HN0)]; rfl
    have cf3 : w16.cell? ⟨FB, 3, none⟩ = some (.string ⟨#[]⟩) := by rw [Lib.cell_of_heap (unhide HN0)]; rfl
    have cf4 : w16.cell? ⟨FB, 4, none⟩ = some (.string ⟨#[]⟩) := by rw [Lib.cell_of_heap (unhide HN0)]; rfl
    have cf5 : w16.cell? ⟨FB, 5, none⟩ = some (.string ⟨#[]⟩) := by rw [Lib.cell_of_heap (unhide HN0)]; rfl
    have cf6 : w16.cell? ⟨FB, 6, none⟩ = some (.slice none 0 0) := by rw [Lib.cell_of_heap (unhide HN0)]; rfl
    have cy0 : w16.cell? ⟨BY, 0, none⟩ = some (.int .i64 qy.k) := by rw [Lib.cell_of_heap (unhide HY)]; rfl
    have cy1 : w16.cell? ⟨BY, 1, none⟩ = some (.bool qy.b) := by rw [Lib.cell_of_heap (unhide HY)]; rfl
    have cy2 : w16.cell? ⟨BY, 2, none⟩ = some (.int .i64 qy.n) := by rw [Lib.cell_of_heap (unhide HY)]; rfl
    have cy3 : w16.cell? ⟨BY, 3, none⟩ = some (.string qy.s) := by rw [Lib.cell_of_heap (unhide HY)]; rfl
    have cy4 : w16.cell? ⟨BY, 4, none⟩ = some (.string qy.t) := by rw [Lib.cell_of_heap (unhide HY)]; rfl
    have cy5 : w16.cell? ⟨BY, 5, none⟩ = some (.string qy.i) := by rw [Lib.cell_of_heap (unhide HY)]; rfl
    have cy6 : w16.cell? ⟨BY, 6, none⟩ = some (.slice qy.lo qy.ll qy.lc) := by rw [Lib.cell_of_heap (unhide HY)]; rfl
    have okT : okEv (andT (eBool false) Y) = true := okEv_2a (okEv_b false) okY
    have hbk := ev1 w16 (.cells #[.int .i64 1, .bool false, .int .i64 0, .string ⟨#[]⟩, .string ⟨#[]⟩, .string ⟨#[]⟩, .slice none 0 0, .int .i64 qy.k, .bool qy.b, .int .i64 qy.n, .string qy.s, .string qy.t, .string qy.i, .slice qy.lo qy.ll qy.lc] 42)
    have hkk := alloc_heap w16 (.cells #[.int .i64 1, .bool false, .int .i64 0, .string ⟨#[]⟩, .string ⟨#[]⟩, .string ⟨#[]⟩, .slice none 0 0, .int .i64 qy.k, .bool qy.b, .int .i64 qy.n, .string qy.s, .string qy.t, .string qy.i, .slice qy.lo qy.ll qy.lc] 42)
    have HBWk := hide ((unhide HBW).trans (hbk.mono (unhide HBW).size))
    have CO := expr13_pl (⟨p, a, r, ps, f⟩ : EvD) go gs gs.length gcap (andT (eBool false) Y) ⟨23, false, 0, ⟨#[]⟩, ⟨#[]⟩, ⟨#[]⟩, some ⟨w16.heap.size, 0, none⟩, 2, 2⟩ _ rfl (unhide HEW _ (unhide HBWk) p a r) (isE_node (s := []) (t := []) (i := []) rfl (isEs_block [⟨1, false, 0, ⟨#[]⟩, ⟨#[]⟩, ⟨#[]⟩, none, 0, 0⟩, qy] [eBool false, Y] hkk rfl (.cons (isE_b _ false) (.cons (liftX (unhide HIY) hbk) .nil)))) okT (eval_andN _ _)
    rw [show (ofP (.bool false)).val = .agg #[.int .i64 1, .bool false, .int .i64 0, .string ⟨#[]⟩, .string ⟨#[]⟩, .string ⟨#[]⟩, .slice none 0 0] from rfl] at CO
    clear okT hkk
    go_wp2_with fail
    generalize w16.alloc _ = wk at *
    refine CO.mono ?_
    clear CO cq0 cq1 cq2 cq3 cq4 cq5 cf0 cf1 cf2 cf3 cf4 cf5 cf6 cy0 cy1 cy2 cy3 cy4 cy5 cy6
    rintro _ wm ⟨rfl, bm⟩
    have bv := ev1 wm (.cells #[.int .i64 1, .bool false, .int .i64 0, .string ⟨#[]⟩, .string ⟨#[]⟩, .string ⟨#[]⟩, .slice none 0 0] 46)
    have hv := alloc_heap wm (.cells #[.int .i64 1, .bool false, .int .i64 0, .string ⟨#[]⟩, .string ⟨#[]⟩, .string ⟨#[]⟩, .slice none 0 0] 46)
    have bb := hbk.trans ((bm.trans (bv.mono bm.size)).mono hbk.size)
    obtain ⟨V4, hV4⟩ : ∃ V, V = wm.heap.size := ⟨_, rfl⟩
    have HBW2 := hide ((unhide HBW).trans (bb.mono (unhide HBW).size))
    have HQ2 := hide (kept_of_below bb (unhide HQ))
    have HX2 := hide (kept_of_below bb (unhide HX))
    have HY2 := hide (kept_of_below bb (unhide HY))
    have HN12 := hide (kept_of_below bb (unhide HN1))
    have HN02 := hide (kept_of_below bb (unhide HN0))
    have HIX2 := hide (liftX (unhide HIX) bb)
    have HIY2 := hide (liftX (unhide HIY) bb)
    have HV42 := hide hv
    clear hv bb bv bm hbk HBW HBWk HIX HIY HQ HX HY HN1 HN0  
    go_upto_region 15 with fail
    generalize wm.alloc _ = w17 at *
    rw [← hV4] at HV42 ⊢
    clear hV4
    have HBW := HBW2
    clear HBW2
    have HIX := HIX2
    clear HIX2
    have HIY := HIY2
    clear HIY2
    have HQ := HQ2
    clear HQ2
    have HX := HX2
    clear HX2
    have HY := HY2
    clear HY2
    have HN1 := HN12
    clear HN12
    have HN0 := HN02
    clear HN02
    have HV4 := HV42
    clear HV42
    have cq0 : w17.cell? ⟨Qb, 0, none⟩ = some (.string p.t) := by rw [Lib.cell_of_heap (unhide HQ)]; rfl
    have cq1 : w17.cell? ⟨Qb, 1, none⟩ = some (.string p.i) := by rw [Lib.cell_of_heap (unhide HQ)]; rfl
    have cq2 : w17.cell? ⟨Qb, 2, none⟩ = some (.string a.t) := by rw [Lib.cell_of_heap (unhide HQ)]; rfl
    have cq3 : w17.cell? ⟨Qb, 3, none⟩ = some (.string a.i) := by rw [Lib.cell_of_heap (unhide HQ)]; rfl
    have cq4 : w17.cell? ⟨Qb, 4, none⟩ = some (.string r.t) := by rw [Lib.cell_of_heap (unhide HQ)]; rfl
    have cq5 : w17.cell? ⟨Qb, 5, none⟩ = some (.string r.i) := by rw [Lib.cell_of_heap (unhide HQ)]; rfl
    have ct0 : w17.cell? ⟨TB, 0, none⟩ = some (.int .i64 1) := by rw [Lib.cell_of_heap (unhide HN1)]; rfl
    have ct1 : w17.cell? ⟨TB, 1, none⟩ = some (.bool true) := by rw [Lib.cell_of_heap (unhide HN1)]; rfl
    have ct2 : w17.cell? ⟨TB, 2, none⟩ = some (.int .i64 0) := by rw [Lib.cell_of_heap (unhide HN1)]; rfl
    have ct3 : w17.cell? ⟨TB, 3, none⟩ = some (.string ⟨#[]⟩) := by rw [Lib.cell_of_heap (unhide HN1)]; rfl
    have ct4 : w17.cell? ⟨TB, 4, none⟩ = some (.string ⟨#[]⟩) := by rw [Lib.cell_of_heap (unhide HN1)]; rfl
    have ct5 : w17.cell? ⟨TB, 5, none⟩ = some (.string ⟨#[]⟩) := by rw [Lib.cell_of_heap (unhide HN1)]; rfl
    have ct6 : w17.cell? ⟨TB, 6, none⟩ = some (.slice none 0 0) := by rw [Lib.cell_of_heap (unhide HN1)]; rfl
    have cy0 : w17.cell? ⟨BY, 0, none⟩ = some (.int .i64 qy.k) := by rw [Lib.cell_of_heap (unhide HY)]; rfl
    have cy1 : w17.cell? ⟨BY, 1, none⟩ = some (.bool qy.b) := by rw [Lib.cell_of_heap (unhide HY)]; rfl
    have cy2 : w17.cell? ⟨BY, 2, none⟩ = some (.int .i64 qy.n) := by rw [Lib.cell_of_heap (unhide HY)]; rfl
    have cy3 : w17.cell? ⟨BY, 3, none⟩ = some (.string qy.s) := by rw [Lib.cell_of_heap (unhide HY)]; rfl
    have cy4 : w17.cell? ⟨BY, 4, none⟩ = some (.string qy.t) := by rw [Lib.cell_of_heap (unhide HY)]; rfl
    have cy5 : w17.cell? ⟨BY, 5, none⟩ = some (.string qy.i) := by rw [Lib.cell_of_heap (unhide HY)]; rfl
    have cy6 : w17.cell? ⟨BY, 6, none⟩ = some (.slice qy.lo qy.ll qy.lc) := by rw [Lib.cell_of_heap (unhide HY)]; rfl
    have okT : okEv (orT (eBool true) Y) = true := okEv_2o (okEv_b true) okY
    have hbk := ev1 w17 (.cells #[.int .i64 1, .bool true, .int .i64 0, .string ⟨#[]⟩, .string ⟨#[]⟩, .string ⟨#[]⟩, .slice none 0 0, .int .i64 qy.k, .bool qy.b, .int .i64 qy.n, .string qy.s, .string qy.t, .string qy.i, .slice qy.lo qy.ll qy.lc] 42)
    have hkk := alloc_heap w17 (.cells #[.int .i64 1, .bool true, .int .i64 0, .string ⟨#[]⟩, .string ⟨#[]⟩, .string ⟨#[]⟩, .slice none 0 0, .int .i64 qy.k, .bool qy.b, .int .i64 qy.n, .string qy.s, .string qy.t, .string qy.i, .slice qy.lo qy.ll qy.lc] 42)
    have HBWk := hide ((unhide HBW).trans (hbk.mono (unhide HBW).size))
    have CO := expr13_pl (⟨p, a, r, ps, f⟩ : EvD) go gs gs.length gcap (orT (eBool true) Y) ⟨24, false, 0, ⟨#[]⟩, ⟨#[]⟩, ⟨#[]⟩, some ⟨w17.heap.size, 0, none⟩, 2, 2⟩ _ rfl (unhide HEW _ (unhide HBWk) p a r) (isE_node (s := []) (t := []) (i := []) rfl (isEs_block [⟨1, true, 0, ⟨#[]⟩, ⟨#[]⟩, ⟨#[]⟩, none, 0, 0⟩, qy] [eBool true, Y] hkk rfl (.cons (isE_b _ true) (.cons (liftX (unhide HIY) hbk) .nil)))) okT (eval_orY _ _)
    rw [show (ofP (.bool true)).val = .agg #[.int .i64 1, .bool true, .int .i64 0, .string ⟨#[]⟩, .string ⟨#[]⟩, .string ⟨#[]⟩, .slice none 0 0] from rfl] at CO
    clear okT hkk
    go_wp2_with fail
    generalize w17.alloc _ = wk at *
    refine CO.mono ?_
    clear CO cq0 cq1 cq2 cq3 cq4 cq5 ct0 ct1 ct2 ct3 ct4 ct5 ct6 cy0 cy1 cy2 cy3 cy4 cy5 cy6
    rintro _ wm ⟨rfl, bm⟩
    have bv := ev1 wm (.cells #[.int .i64 1, .bool true, .int .i64 0, .string ⟨#[]⟩, .string ⟨#[]⟩, .string ⟨#[]⟩, .slice none 0 0] 46)
    have hv := alloc_heap wm (.cells #[.int .i64 1, .bool true, .int .i64 0, .string ⟨#[]⟩, .string ⟨#[]⟩, .string ⟨#[]⟩, .slice none 0 0] 46)
    have bb := hbk.trans ((bm.trans (bv.mono bm.size)).mono hbk.size)
    obtain ⟨V5, hV5⟩ : ∃ V, V = wm.heap.size := ⟨_, rfl⟩
    have HBW2 := hide ((unhide HBW).trans (bb.mono (unhide HBW).size))
    have HQ2 := hide (kept_of_below bb (unhide HQ))
    have HX2 := hide (kept_of_below bb (unhide HX))
    have HY2 := hide (kept_of_below bb (unhide HY))
    have HN12 := hide (kept_of_below bb (unhide HN1))
    have HN02 := hide (kept_of_below bb (unhide HN0))
    have HIX2 := hide (liftX (unhide HIX) bb)
    have HIY2 := hide (liftX (unhide HIY) bb)
    have HV42 := hide (kept_of_below bb (unhide HV4))
    have HV52 := hide hv
    clear hv bb bv bm hbk HBW HBWk HIX HIY HQ HX HY HN1 HN0 HV4 
    go_upto_region 16 with fail
    generalize wm.alloc _ = w18 at *
    rw [← hV5] at HV52 ⊢
    clear hV5
    have HBW := HBW2
    clear HBW2
    have HIX := HIX2
    clear HIX2
    have HIY := HIY2
    clear HIY2
    have HQ := HQ2
    clear HQ2
    have HX := HX2
    clear HX2
    have HY := HY2
    clear HY2
    have HN1 := HN12
    clear HN12
    have HN0 := HN02
    clear HN02
    have HV4 := HV42
    clear HV42
    have HV5 := HV52
    clear HV52
    have c40 : w18.cell? ⟨V4, 0, none⟩ = some (.int .i64 1) := by rw [Lib.cell_of_heap (unhide HV4)]; rfl
    have c41 : w18.cell? ⟨V4, 1, none⟩ = some (.bool false) := by rw [Lib.cell_of_heap (unhide HV4)]; rfl
    have c42 : w18.cell? ⟨V4, 2, none⟩ = some (.int .i64 0) := by rw [Lib.cell_of_heap (unhide HV4)]; rfl
    have c43 : w18.cell? ⟨V4, 3, none⟩ = some (.string ⟨#[]⟩) := by rw [Lib.cell_of_heap (unhide HV4)]; rfl
    have c44 : w18.cell? ⟨V4, 4, none⟩ = some (.string ⟨#[]⟩) := by rw [Lib.cell_of_heap (unhide HV4)]; rfl
    have c45 : w18.cell? ⟨V4, 5, none⟩ = some (.string ⟨#[]⟩) := by rw [Lib.cell_of_heap (unhide HV4)]; rfl
    have c46 : w18.cell? ⟨V4, 6, none⟩ = some (.slice none 0 0) := by rw [Lib.cell_of_heap (unhide HV4)]; rfl
    have c50 : w18.cell? ⟨V5, 0, none⟩ = some (.int .i64 1) := by rw [Lib.cell_of_heap (unhide HV5)]; rfl
    have c51 : w18.cell? ⟨V5, 1, none⟩ = some (.bool true) := by rw [Lib.cell_of_heap (unhide HV5)]; rfl
    have c52 : w18.cell? ⟨V5, 2, none⟩ = some (.int .i64 0) := by rw [Lib.cell_of_heap (unhide HV5)]; rfl
    have c53 : w18.cell? ⟨V5, 3, none⟩ = some (.string ⟨#[]⟩) := by rw [Lib.cell_of_heap (unhide HV5)]; rfl
    have c54 : w18.cell? ⟨V5, 4, none⟩ = some (.string ⟨#[]⟩) := by rw [Lib.cell_of_heap (unhide HV5)]; rfl
    have c55 : w18.cell? ⟨V5, 5, none⟩ = some (.string ⟨#[]⟩) := by rw [Lib.cell_of_heap (unhide HV5)]; rfl
    have c56 : w18.cell? ⟨V5, 6, none⟩ = some (.slice none 0 0) := by rw [Lib.cell_of_heap (unhide HV5)]; rfl
    go_wp2
    go_ret
    exact ⟨rfl, B7.trans ((unhide HBW).mono B7.size)⟩
end Go.Proofs.YtacljmckohbjaaaGreat
