/-
 chancellaw10.Good: kinds turned, actions chosen: the states (no walk in it).
-/
import Derived.Test.YtagnbpobcijakaaSgD
namespace Go.Proofs.Ytagnbpobcijakaa
open Go.RowKit Go.Sort

/-! ## Kinds turned one by one. -/

def mixK (n : List ByteArray) (G : List KP) (i : Nat) : List KP := (G.take i).map (kindG n) ++ G.drop i
theorem mixK_len (n : List ByteArray) (G : List KP) (i : Nat) : (mixK n G i).length = G.length := by
 unfold mixK
 simp
 omega
theorem mixK_get (n : List ByteArray) (G : List KP) (i : Nat) (h : i < G.length) (h' : i < (mixK n G i).length) : (mixK n G i)[i] = G[i] := by
 have e : (mixK n G i)[i]? = some G[i] := by
  unfold mixK
  rw [List.getElem?_append_right (by rw [List.length_map, List.length_take]; omega), List.length_map, List.length_take, Nat.min_eq_left (by omega), Nat.sub_self, List.getElem?_drop, Nat.add_zero]
  exact List.getElem?_eq_getElem h
 exact (List.getElem?_eq_some_iff.1 e).2
theorem mixK_set (n : List ByteArray) (G : List KP) (i : Nat) (h : i < G.length) : (mixK n G i).set i (kindG n G[i]) = mixK n G (i + 1) := by
 unfold mixK
 rw [List.set_append, if_neg (by rw [List.length_map, List.length_take]; omega), List.take_succ_eq_append_getElem h, List.map_append, List.append_assoc]
 congr 1
 have e : i - ((G.take i).map (kindG n)).length = 0 := by simp; omega
 rw [e, List.drop_eq_getElem_cons h]
 rfl
theorem mixK_names (n : List ByteArray) (G : List KP) (i : Nat) : (mixK n G i).map KP.nm = G.map KP.nm := by
 unfold mixK
 rw [List.map_append, List.map_map]
 have e : (KP.nm ∘ kindG n) = KP.nm := rfl
 rw [e, ← List.map_append, List.take_append_drop]
theorem mixK_zero (n : List ByteArray) (G : List KP) : mixK n G 0 = G := by
 unfold mixK
 simp
theorem mixK_end (n : List ByteArray) (G : List KP) (i : Nat) (h : ¬ i < G.length) : mixK n G i = G.map (kindG n) := by
 unfold mixK
 rw [List.take_of_length_le (by omega), List.drop_eq_nil_of_le (by omega), List.append_nil]
theorem good1_mem (ks : List KP) (l : List ByteArray) : ∀ k ∈ good1 ks l, k ∈ ks := by
 have h1 : ∀ (n : ByteArray) (t acc : List KP), (∀ k ∈ acc, k ∈ ks) → (∀ k ∈ t, k ∈ ks) → ∀ k ∈ pickKs n t acc, k ∈ ks := by
  intro n t
  unfold pickKs
  induction t with
  | nil => intro acc h _; simpa using h
  | cons a t ih =>
   intro acc h ht
   simp only [List.foldl_cons]
   refine ih _ (fun k hk => ?_) (fun k hk => ht k (List.mem_cons_of_mem _ hk))
   unfold pickK at hk
   cases e : pickB n acc a
   ·rw [e] at hk
    exact h k hk
   ·rw [e, if_pos rfl] at hk
    rcases List.mem_append.1 hk with hk | hk
    ·exact h k hk
    ·rw [List.mem_singleton.1 hk]
     exact ht a List.mem_cons_self
 have h2 : ∀ (l : List ByteArray) (acc : List KP), (∀ k ∈ acc, k ∈ ks) → ∀ k ∈ l.foldl (fun acc n => pickKs n ks acc) acc, k ∈ ks := by
  intro l
  induction l with
  | nil => intro acc h; simpa using h
  | cons a t ih =>
   intro acc h
   simp only [List.foldl_cons]
   exact ih _ (h1 a ks acc h (fun k hk => hk))
 exact h2 l [] (fun k hk => absurd hk List.not_mem_nil)
/-- What the operations answer that turn a kind. -/
def s15Sp (S : Nat) (lv : Value) (i g : Nat) (kv : Value) (n : List ByteArray) (k : KP) : Nat → Value → World → Prop
 | 0, v, _ => v = .pointer (some ⟨S, 0, none⟩)
 | 1, v, _ => v = lv
 | 2, v, _ => v = .int .i64 i
 | 3, v, _ => v = .agg #[lv, .slice none 0 0]
 | 4, v, _ => v = .pointer (some ⟨S, 0, none⟩)
 | 5, v, _ => v = lv
 | 6, v, _ => v = .int .i64 i
 | 7, v, _ => v = .pointer (some ⟨g, i * 3, none⟩)
 | 8, v, _ => v = kv
 | 9, v, w => ∃ y : N3, v = .agg #[.string y.nm, .slice y.ao y.al y.ac, .slice y.bo y.bl y.bc] ∧ IsKT w y (kindG n k)
 | 10, v, _ => v = .pointer (some ⟨g, i * 3, none⟩)
 | _ + 11, _, _ => True
theorem s15Sp_up {S : Nat} {lv : Value} {i g : Nat} {kv : Value} {n : List ByteArray} {k : KP} {w w' : World} (hb : Below w.heap.size w w') : ∀ q u, s15Sp S lv i g kv n k q u w → s15Sp S lv i g kv n k q u w'
 | 0, _, h | 1, _, h | 2, _, h | 3, _, h | 4, _, h | 5, _, h | 6, _, h | 7, _, h | 8, _, h | 10, _, h => h
 | 9, _, ⟨y, e, h⟩ => ⟨y, e, h.turn (.of_below hb)⟩
 | _ + 11, _, _ => trivial

/-! ## Actions chosen. -/

structure G4 (w W1 wr : World) (S : Nat) (kv lv : Value) (xs : List N3) (acc : List AP) : Prop where
 below : Below w.heap.size w wr
 size : W1.heap.size ≤ wr.heap.size
 old : ∀ b, b < W1.heap.size → b ≠ S → wr.heap[b]? = W1.heap[b]?
 s : wr.heap[S]? = some (.cells #[kv, lv] 33 (0, 0))
 own : wr.ownsRow W1.heap.size 83 3 lv acc.length (xs.map N3.cells).flatten
 len : xs.length = acc.length
 all : ∀ j (h : j < xs.length) (h' : j < acc.length), IsAT wr xs[j] acc[j]
theorem G4.up {w W1 wr wt : World} {S : Nat} {kv lv : Value} {xs : List N3} {acc : List AP} (h : G4 w W1 wr S kv lv xs acc) (hb : Below wr.heap.size wr wt) : G4 w W1 wt S kv lv xs acc :=
 ⟨h.below.trans (hb.mono h.below.size), Nat.le_trans h.size hb.size, fun b h1 h2 => (hb.block b (by have := h.size; omega)).trans (h.old b h1 h2), kept_of_below hb h.s, own_belowS h.own hb, h.len, fun j h1 h2 => (h.all j h1 h2).turn (.of_below hb)⟩
theorem G4.keep {w W1 wr : World} {S : Nat} {kv lv kv0 lv0 : Value} {xs : List N3} {acc : List AP} (h : G4 w W1 wr S kv lv xs acc) (hS : W1.heap[S]? = some (.cells #[kv0, lv0] 33 (0, 0))) : KeepSF W1 wr :=
 ⟨h.size, fun b cur T fz hT hb => (h.old b (Array.getElem?_eq_some_iff.1 hb).1 (fun e => by rw [e] at hb; exact sf_ne hT (.inl rfl) (not_typed hb hS))).trans hb⟩
/-- Whatever was done elsewhere. -/
theorem G4.other {w W1 wr wt : World} {S A : Nat} {kv lv : Value} {xs : List N3} {acc : List AP} (h : G4 w W1 wr S kv lv xs acc) (hS : S < wr.heap.size) (hA : W1.heap.size ≤ A) (hAS : A ≠ S) (hty : ∃ cs, wr.heap[A]? = some (.cells cs 83 (0, 0))) (hAo : lv.ownBlock ≠ some A) (hb : Below w.heap.size w wt) (hz : wr.heap.size ≤ wt.heap.size) (hk : ∀ b, b < wr.heap.size → b ≠ A → wt.heap[b]? = wr.heap[b]?) : G4 w W1 wt S kv lv xs acc := by
 have hsz := h.size
 obtain ⟨cs, hty⟩ := hty
 have kf : KeepSF wr wt := ⟨hz, fun b cur T fz hT hb => (hk b (Array.getElem?_eq_some_iff.1 hb).1 (fun e => by rw [e] at hb; exact sf_ne hT (.inr (.inr rfl)) (not_typed hb hty))).trans hb⟩
 exact ⟨hb, Nat.le_trans hsz hz, fun b h1 h2 => (hk b (by omega) (by omega)).trans (h.old b h1 h2), (hk S hS (Ne.symm hAS)).trans h.s, own_turn h.own (fun b e => hk b (h.own.lt b e).2 (fun e' => hAo (by rw [← e']; exact e))), h.len, fun j h1 h2 => (h.all j h1 h2).turn kf⟩
theorem G4.isS {w W0 W1 wr : World} {S n cap an ac : Nat} {ko ao : Option Addr} {av : Value} {xs xk : List N3} {G : List KP} {acc : List AP} (h : G4 w W1 wr S (.slice ko n cap) (.slice ao an ac) xs acc) (h1 : G1 w W0 W1 S av (.slice ko n cap) xk G) (hSW : S < W0.heap.size) : IsST wr (.agg #[.slice ko n cap, .slice ao an ac]) ⟨G, acc⟩ := by
 have kf := h.keep h1.s
 have hz := h1.size
 have ho : W1.ownsRow W0.heap.size 80 3 (.slice ko n cap) xk.length (xk.map N3.cells).flatten := by rw [h1.len]; exact h1.own
 have ho := own_turn (w' := wr) ho fun b hb => by
  have := h1.own.lt b hb
  exact h.old b (by omega) (by omega)
 have hp : wr.ownsRow W1.heap.size 83 3 (.slice ao an ac) xs.length (xs.map N3.cells).flatten := by rw [h.len]; exact h.own
 obtain ⟨ko', kc', e1, r1, _⟩ := own_row lenN ho
 obtain ⟨ao', ac', e2, r2, _⟩ := own_row lenN hp
 injection e1 with e11 e12 e13
 injection e2 with e21 e22 e23
 subst e11 e12 e13 e21 e22 e23
 exact ⟨⟨ko, cap, ao, ac, xk, xs, by rw [h1.len, h.len], h1.len, r1, fun j a b => (h1.all j a b).turn kf, h.len, r2, h.all⟩⟩
theorem G4.next {w W1 wr wk w6 : World} {S : Nat} {kv lv v6 : Value} {xs : List N3} {acc : List AP} {x : N3} {a : AP} (h : G4 w W1 wr S kv lv xs acc) (hS : S < W1.heap.size) (hwS : w.heap.size ≤ S) (hx : IsAT wr x a) (hbk : Below wr.heap.size wr wk) (bw : Below w.heap.size w w6)
  (hown : w6.ownsRow W1.heap.size 83 3 v6 (acc.length + 1) ((xs.map N3.cells).flatten ++ x.cells)) (hg : wk.grownBy w6 lv.ownBlock) : G4 w W1 (w6.setCell ⟨S, 1, none⟩ v6) S kv v6 (xs ++ [x]) (acc ++ [a]) := by
 have hrow := h.own.lt
 have hsz := h.size
 have zk := hbk.size
 have keep : ∀ b, b < wr.heap.size → lv.ownBlock ≠ some b → w6.heap[b]? = wr.heap[b]? := fun b hb hne => (hg.block b (by omega) (fun e => hne e.symm)).trans (hbk.block b hb)
 have low : ∀ b, b < W1.heap.size → w6.heap[b]? = wr.heap[b]? := fun b hb => keep b (by omega) (fun e => by have := (hrow b e).1; omega)
 have k7 : KeepSF wr (w6.setCell ⟨S, 1, none⟩ v6) := by
  refine ⟨by rw [World.size_setCell]; exact Nat.le_trans zk hg.size, fun b cur T fz hT hb => ?_⟩
  have hbl := (Array.getElem?_eq_some_iff.1 hb).1
  have hnS : b ≠ S := fun e => by
   rw [e] at hb
   exact sf_ne hT (.inl rfl) (not_typed hb h.s)
  have hnG : lv.ownBlock ≠ some b := fun e => by
   obtain ⟨cu, f, h2⟩ := own_ty h.own e
   exact sf_ne hT (.inr (.inr rfl)) (not_typed hb h2)
  rw [Below.heap_setCell w6 ⟨S, 1, none⟩ v6 b hnS, keep b hbl hnG]
  exact hb
 refine ⟨bw.setCell (p := ⟨S, 1, none⟩) hwS _, by rw [World.size_setCell]; have := hg.size; omega, fun b hb hne => ?_, ?_, ?_, by simp [h.len], fun j hj hj' => ?_⟩
 ·rw [Below.heap_setCell w6 ⟨S, 1, none⟩ v6 b hne, low b hb]
  exact h.old b hb hne
 ·have := heap_setCell_same w6 S 1 _ _ v6 ((low S hS).trans h.s)
  exact this
 ·rw [List.length_append, flat_app]
  exact own_turn hown fun b hb => Below.heap_setCell w6 ⟨S, 1, none⟩ v6 b (by have := (hown.lt b hb).1; show b ≠ S; omega)
 ·by_cases hjl : j < xs.length
  ·rw [List.getElem_append_left hjl, List.getElem_append_left (by have := h.len; omega)]
   exact (h.all j hjl (by have := h.len; omega)).turn k7
  ·have hjk : j = xs.length := by
    have h2 : j < xs.length + 1 := by simpa using hj
    omega
   subst hjk
   rw [List.getElem_append_right (Nat.le_refl _), List.getElem_append_right (by have := h.len; omega)]
   have := h.len
   simp only [Nat.sub_self, List.getElem_cons_zero, show xs.length - acc.length = 0 by omega]
   exact hx.turn k7

/-! ## An action's two rows are written over, in whatever order. -/

structure AS (w wA : World) (A : Nat) (nm : ByteArray) (p0 r0 : Value) (L : Nat → Bool) (a' : Act) (w' : World) : Prop where
 below : Below w.heap.size w w'
 size : wA.heap.size ≤ w'.heap.size
 keep : ∀ b, b < wA.heap.size → b ≠ A → w'.heap[b]? = wA.heap[b]?
 at_ : ∃ pv rv, w'.heap[A]? = some (.cells #[.string nm, pv, rv] 83 (0, 0)) ∧ (L 9 = false → pv = p0) ∧ (L 9 = true → pv = a'.tmps.getD 140 undef) ∧ (L 11 = false → rv = r0) ∧ (L 11 = true → rv = a'.tmps.getD 144 undef)
 c3 : L 3 = true → L 2 = true
 c7 : L 7 = true → L 6 = true
 c9 : L 9 = true → L 3 = true
 c11 : L 11 = true → L 7 = true
theorem AS.start {w wA : World} {A : Nat} {nm : ByteArray} {p0 r0 : Value} (a : Act) (hb : Below w.heap.size w wA) (h : wA.heap[A]? = some (.cells #[.string nm, p0, r0] 83 (0, 0))) : AS w wA A nm p0 r0 (fun _ => false) a wA.drew :=
 ⟨hb.drew, Nat.le_refl _, fun _ _ _ => rfl, ⟨p0, r0, h, fun _ => rfl, fun h => (by cases h), fun _ => rfl, fun h => (by cases h)⟩, fun h => (by cases h), fun h => (by cases h), fun h => (by cases h), fun h => (by cases h)⟩
/-- An operation other than the two stores, with a slot of its own. -/
theorem AS.step {w wA w' w'' : World} {A : Nat} {nm : ByteArray} {p0 r0 : Value} {L : Nat → Bool} {a' : Act} (h : AS w wA A nm p0 r0 L a' w') (_hA : A < wA.heap.size) (hb : Below w'.heap.size w' w'') (i d : Nat) (v : Value) (hL : L i = false) (h9 : i ≠ 9) (h11 : i ≠ 11) (hd : i ≠ 3 → d ≠ 140) (hd' : i ≠ 7 → d ≠ 144) (h3 : i = 3 → L 2 = true) (h7 : i = 7 → L 6 = true) : AS w wA A nm p0 r0 (fun j => decide (j = i) || L j) (a'.put (some d) v) w'' := by
 obtain ⟨pv, rv, x1, x2, x3, x4, x5⟩ := h.at_
 have e9 : (decide (9 = i) || L 9) = L 9 := by simp [Ne.symm h9]
 have e11 : (decide (11 = i) || L 11) = L 11 := by simp [Ne.symm h11]
 have hz := h.size
 refine ⟨h.below.trans (hb.mono h.below.size), Nat.le_trans hz hb.size, fun b y1 y2 => (hb.block b (by omega)).trans (h.keep b y1 y2), ⟨pv, rv, kept_of_below hb x1, fun y => x2 (e9.symm.trans y), fun y => ?_, fun y => x4 (e11.symm.trans y), fun y => ?_⟩, fun y => ?_, fun y => ?_, fun y => ?_, fun y => ?_⟩
 ·have hL9 := e9.symm.trans y
  have hi3 : i ≠ 3 := fun e => by
   have := h.c9 hL9
   rw [← e, hL] at this
   cases this
  rw [put_other _ _ _ _ (hd hi3)]
  exact x3 hL9
 ·have hL11 := e11.symm.trans y
  have hi7 : i ≠ 7 := fun e => by
   have := h.c11 hL11
   rw [← e, hL] at this
   cases this
  rw [put_other _ _ _ _ (hd' hi7)]
  exact x5 hL11
 ·simp only [Bool.or_eq_true, decide_eq_true_eq] at y ⊢
  rcases y with y | y
  ·exact .inr (h3 y.symm)
  ·exact .inr (h.c3 y)
 ·simp only [Bool.or_eq_true, decide_eq_true_eq] at y ⊢
  rcases y with y | y
  ·exact .inr (h7 y.symm)
  ·exact .inr (h.c7 y)
 ·simp only [Bool.or_eq_true, decide_eq_true_eq] at y ⊢
  exact .inr (h.c9 (y.resolve_left (Ne.symm h9)))
 ·simp only [Bool.or_eq_true, decide_eq_true_eq] at y ⊢
  exact .inr (h.c11 (y.resolve_left (Ne.symm h11)))
theorem AS.put9 {w wA w' : World} {A : Nat} {nm : ByteArray} {p0 r0 : Value} {L : Nat → Bool} {a' : Act} (h : AS w wA A nm p0 r0 L a' w') (hwA : w.heap.size ≤ A) (_hL : L 9 = false) (h3 : L 3 = true) : AS w wA A nm p0 r0 (fun j => decide (j = 9) || L j) a' (w'.setCell ⟨A, 1, none⟩ (a'.tmps.getD 140 undef)) := by
 obtain ⟨pv, rv, x1, x2, x3, x4, x5⟩ := h.at_
 have hs := heap_setCell_same w' A 1 _ _ (a'.tmps.getD 140 undef) x1
 refine ⟨h.below.setCell (p := ⟨A, 1, none⟩) hwA _, by rw [World.size_setCell]; exact h.size, fun b y1 y2 => (Below.heap_setCell w' ⟨A, 1, none⟩ _ b y2).trans (h.keep b y1 y2), ⟨_, rv, hs, fun y => ?_, fun _ => rfl, fun y => x4 (by simpa using y), fun y => x5 (by simpa using y)⟩, fun y => ?_, fun y => ?_, fun y => ?_, fun y => ?_⟩
 ·simp at y
 ·have := h.c3 (by simpa using y)
  simp [this]
 ·have := h.c7 (by simpa using y)
  simp [this]
 ·simp [h3]
 ·have := h.c11 (by simpa using y)
  simp [this]
theorem AS.put11 {w wA w' : World} {A : Nat} {nm : ByteArray} {p0 r0 : Value} {L : Nat → Bool} {a' : Act} (h : AS w wA A nm p0 r0 L a' w') (hwA : w.heap.size ≤ A) (_hL : L 11 = false) (h7 : L 7 = true) : AS w wA A nm p0 r0 (fun j => decide (j = 11) || L j) a' (w'.setCell ⟨A, 2, none⟩ (a'.tmps.getD 144 undef)) := by
 obtain ⟨pv, rv, x1, x2, x3, x4, x5⟩ := h.at_
 have hs := heap_setCell_same w' A 2 _ _ (a'.tmps.getD 144 undef) x1
 refine ⟨h.below.setCell (p := ⟨A, 2, none⟩) hwA _, by rw [World.size_setCell]; exact h.size, fun b y1 y2 => (Below.heap_setCell w' ⟨A, 2, none⟩ _ b y2).trans (h.keep b y1 y2), ⟨pv, _, hs, fun y => x2 (by simpa using y), fun y => x3 (by simpa using y), fun y => ?_, fun _ => rfl⟩, fun y => ?_, fun y => ?_, fun y => ?_, fun y => ?_⟩
 ·simp at y
 ·have := h.c3 (by simpa using y)
  simp [this]
 ·have := h.c7 (by simpa using y)
  simp [this]
 ·have := h.c9 (by simpa using y)
  simp [this]
 ·simp [h7]
/-- A row of its own with those texts. -/
def RowT (w : World) (v : Value) (l : List ByteArray) : Prop := ∃ o c, v = .slice o l.length c ∧ RowS w o l ∧ TyRow w 9 o l
theorem RowT.turn {w w' : World} {v : Value} {l : List ByteArray} (h : RowT w v l) (hk : KeepSF w w') : RowT w' v l := by
 obtain ⟨o, c, e, h1, h2⟩ := h
 exact ⟨o, c, e, row_turn h1 h2 (.inl rfl) hk, h2.turn (.inl rfl) hk⟩
def s25Sp (A : Nat) (sv p0 r0 : Value) (tp tr : List ByteArray) : Nat → Value → World → Prop
 | 0, v, _ => v = sv
 | 1, v, _ => v = .pointer (some ⟨A, 1, none⟩)
 | 2, v, _ => v = p0
 | 3, v, w => RowT w v tp
 | 4, v, _ => v = sv
 | 5, v, _ => v = .pointer (some ⟨A, 2, none⟩)
 | 6, v, _ => v = r0
 | 7, v, w => RowT w v tr
 | 8, v, _ => v = .pointer (some ⟨A, 1, none⟩)
 | 10, v, _ => v = .pointer (some ⟨A, 2, none⟩)
 | 9, _, _ => True
 | _ + 11, _, _ => True
theorem s25Sp_up {A : Nat} {sv p0 r0 : Value} {tp tr : List ByteArray} {w w' : World} (hk : KeepSF w w') : ∀ q u, s25Sp A sv p0 r0 tp tr q u w → s25Sp A sv p0 r0 tp tr q u w'
 | 0, _, h | 1, _, h | 2, _, h | 4, _, h | 5, _, h | 6, _, h | 8, _, h | 10, _, h | 9, _, h => h
 | 3, _, h | 7, _, h => h.turn hk
 | _ + 11, _, _ => trivial
theorem keepSF_set {w : World} {A f : Nat} {v : Value} {cs : Array Value} (h : w.heap[A]? = some (.cells cs 83 (0, 0))) : KeepSF w (w.setCell ⟨A, f, none⟩ v) :=
 ⟨by rw [World.size_setCell]; exact Nat.le_refl _, fun b cur T fz hT hb => (Below.heap_setCell w ⟨A, f, none⟩ v b (fun e => by
  have e : b = A := e
  rw [e] at hb
  exact sf_ne hT (.inr (.inr rfl)) (not_typed hb h))).trans hb⟩
theorem as_keep {w wA w' : World} {A : Nat} {nm : ByteArray} {p0 r0 : Value} {L : Nat → Bool} {a' : Act} {cs : Array Value} (h : AS w wA A nm p0 r0 L a' w') (hA : wA.heap[A]? = some (.cells cs 83 (0, 0))) : KeepSF wA w' :=
 ⟨h.size, fun b cur T fz hT hb => (h.keep b (Array.getElem?_eq_some_iff.1 hb).1 (fun e => by rw [e] at hb; exact sf_ne hT (.inr (.inr rfl)) (not_typed hb hA))).trans hb⟩
theorem full_len (a : AP) : fullA a = (decide (0 < a.pr.length) && decide (0 < a.re.length)) := by
 unfold fullA
 cases a.pr <;> cases a.re <;> simp
/-- The schema behind its copying into another place. -/
theorem G4.isSet {w W0 W1 wr : World} {S n cap an ac : Nat} {ko ao : Option Addr} {av : Value} {xs xk : List N3} {G : List KP} {acc : List AP} {v1 v2 : Value} {cs : Array Value} (h : G4 w W1 wr S (.slice ko n cap) (.slice ao an ac) xs acc) (h1 : G1 w W0 W1 S av (.slice ko n cap) xk G) (hSW : S < W0.heap.size) (hwW : w.heap.size < W0.heap.size) (hR : wr.heap[w.heap.size]? = some (.cells cs 33 (0, 0))) : IsST ((wr.setCell ⟨w.heap.size, 0, none⟩ v1).setCell ⟨w.heap.size, 1, none⟩ v2) (.agg #[.slice ko n cap, .slice ao an ac]) ⟨G, acc⟩ := by
 have kf := h.keep h1.s
 have hz := h1.size
 have ne : ∀ b, b ≠ w.heap.size → ((wr.setCell ⟨w.heap.size, 0, none⟩ v1).setCell ⟨w.heap.size, 1, none⟩ v2).heap[b]? = wr.heap[b]? := fun b hb => (Below.heap_setCell _ ⟨w.heap.size, 1, none⟩ _ b hb).trans (Below.heap_setCell _ ⟨w.heap.size, 0, none⟩ _ b hb)
 have ks : KeepSF wr ((wr.setCell ⟨w.heap.size, 0, none⟩ v1).setCell ⟨w.heap.size, 1, none⟩ v2) := ⟨by simp, fun b cur T fz hT hb => (ne b (fun e => by rw [e] at hb; exact sf_ne hT (.inl rfl) (not_typed hb hR))).trans hb⟩
 have ho : W1.ownsRow W0.heap.size 80 3 (.slice ko n cap) xk.length (xk.map N3.cells).flatten := by rw [h1.len]; exact h1.own
 have ho := own_turn (w' := wr) ho fun b hb => by
  have := h1.own.lt b hb
  exact h.old b (by omega) (by omega)
 have ho := own_turn (w' := (wr.setCell ⟨w.heap.size, 0, none⟩ v1).setCell ⟨w.heap.size, 1, none⟩ v2) ho fun b hb => ne b (by have := (ho.lt b hb).1; omega)
 have hp : wr.ownsRow W1.heap.size 83 3 (.slice ao an ac) xs.length (xs.map N3.cells).flatten := by rw [h.len]; exact h.own
 have hp := own_turn (w' := (wr.setCell ⟨w.heap.size, 0, none⟩ v1).setCell ⟨w.heap.size, 1, none⟩ v2) hp fun b hb => ne b (by have := (hp.lt b hb).1; omega)
 obtain ⟨ko', kc', e1, r1, _⟩ := own_row lenN ho
 obtain ⟨ao', ac', e2, r2, _⟩ := own_row lenN hp
 injection e1 with e11 e12 e13
 injection e2 with e21 e22 e23
 subst e11 e12 e13 e21 e22 e23
 exact ⟨⟨ko, cap, ao, ac, xk, xs, by rw [h1.len, h.len], h1.len, r1, fun j a b => ((h1.all j a b).turn kf).turn ks, h.len, r2, fun j a b => (h.all j a b).turn ks⟩⟩
end Go.Proofs.Ytagnbpobcijakaa
