/-
 chancellaw10.Good: what it says, as plain data; the states of its loops (no walk in it).
-/
import Derived.Test.YtagnbpobcijakaaSgC
namespace Go.Proofs.Ytagnbpobcijakaa
open Go.RowKit Go.Sort

/-! ## As plain data. -/

def names4 : List ByteArray := [⟨#[68, 111, 99]⟩, ⟨#[71, 114, 111, 117, 112]⟩, ⟨#[84, 101, 97, 109]⟩, ⟨#[85, 115, 101, 114]⟩]
def acts3 : List ByteArray := [⟨#[111, 119, 110]⟩, ⟨#[114, 101, 97, 100]⟩, ⟨#[119, 114, 105, 116, 101]⟩]
def lastB (o : Option ByteArray) (n : ByteArray) : Bool := match o with | none => false | some m => decide (m = n)
def pickB (n : ByteArray) (acc : List KP) (k : KP) : Bool := decide (k.nm = n) && !lastB (acc.getLast?.map KP.nm) n
def pickK (n : ByteArray) (acc : List KP) (k : KP) : List KP := if pickB n acc k then acc ++ [k] else acc
def pickKs (n : ByteArray) (ks : List KP) (acc : List KP) : List KP := ks.foldl (pickK n) acc
def good1 (ks : List KP) (l : List ByteArray) : List KP := l.foldl (fun acc n => pickKs n ks acc) []
def actG (l : List ByteArray) (a : AP) : AP := ⟨a.nm, thoseL l a.pr, thoseL l a.re⟩
def passA (n : ByteArray) (acc : List AP) (a : AP) : Bool := !decide (a.nm = n) || lastB (acc.getLast?.map AP.nm) n
def fullA (a : AP) : Bool := decide (a.pr ≠ []) && decide (a.re ≠ [])
def pickA (l : List ByteArray) (n : ByteArray) (acc : List AP) (a : AP) : List AP := if passA n acc a then acc else if fullA (actG l a) then acc ++ [actG l a] else acc
def pickAs (l : List ByteArray) (n : ByteArray) (as_ : List AP) (acc : List AP) : List AP := as_.foldl (pickA l n) acc
def goodA (l : List ByteArray) (as_ : List AP) (ns : List ByteArray) : List AP := ns.foldl (fun acc n => pickAs l n as_ acc) []
def goodNs (ks : List KP) : List ByteArray := (good1 ks names4).map KP.nm
def goodS (x : SP) : SP := ⟨(good1 x.ks names4).map (kindG (goodNs x.ks)), goodA (goodNs x.ks) x.ac acts3⟩
theorem pickKs_next (n : ByteArray) (ks acc : List KP) (i : Nat) (h : i < ks.length) : pickKs n (ks.take (i + 1)) acc = pickK n (pickKs n (ks.take i) acc) ks[i] := by
 unfold pickKs
 rw [List.take_succ_eq_append_getElem h, List.foldl_append]
 rfl
theorem good1_next (ks : List KP) (l : List ByteArray) (i : Nat) (h : i < l.length) : good1 ks (l.take (i + 1)) = pickKs l[i] ks (good1 ks (l.take i)) := by
 unfold good1
 rw [List.take_succ_eq_append_getElem h, List.foldl_append]
 rfl
theorem pickAs_next (l : List ByteArray) (n : ByteArray) (ks acc : List AP) (i : Nat) (h : i < ks.length) : pickAs l n (ks.take (i + 1)) acc = pickA l n (pickAs l n (ks.take i) acc) ks[i] := by
 unfold pickAs
 rw [List.take_succ_eq_append_getElem h, List.foldl_append]
 rfl
theorem goodA_next (l : List ByteArray) (ks : List AP) (ns : List ByteArray) (i : Nat) (h : i < ns.length) : goodA l ks (ns.take (i + 1)) = pickAs l ns[i] ks (goodA l ks (ns.take i)) := by
 unfold goodA
 rw [List.take_succ_eq_append_getElem h, List.foldl_append]
 rfl
theorem pickKs_len (n : ByteArray) (ks acc : List KP) : (pickKs n ks acc).length ≤ acc.length + ks.length := by
 unfold pickKs
 induction ks generalizing acc with
 | nil => simp
 | cons f t ih =>
  have := ih (pickK n acc f)
  have h2 : (pickK n acc f).length ≤ acc.length + 1 := by
   unfold pickK
   cases pickB n acc f <;> simp
  simp only [List.foldl_cons, List.length_cons]
  omega
theorem pickAs_len (l : List ByteArray) (n : ByteArray) (ks acc : List AP) : (pickAs l n ks acc).length ≤ acc.length + ks.length := by
 unfold pickAs
 induction ks generalizing acc with
 | nil => simp
 | cons f t ih =>
  have := ih (pickA l n acc f)
  have h2 : (pickA l n acc f).length ≤ acc.length + 1 := by
   unfold pickA
   cases passA n acc f
   ·cases fullA (actG l f) <;> simp
   ·simp
  simp only [List.foldl_cons, List.length_cons]
  omega
/-- How many there are at most, behind so many names. -/
theorem good1_len (ks : List KP) (hk : ks.length ≤ 5) (l : List ByteArray) (i : Nat) (hi : i ≤ l.length) : (good1 ks (l.take i)).length ≤ 5 * i := by
 induction i with
 | zero => simp [good1]
 | succ i ih =>
  rw [good1_next ks l i (by omega)]
  have := pickKs_len l[i] ks (good1 ks (l.take i))
  have := ih (by omega)
  omega
theorem goodA_len (l : List ByteArray) (ks : List AP) (hk : ks.length ≤ 5) (ns : List ByteArray) (i : Nat) (hi : i ≤ ns.length) : (goodA l ks (ns.take i)).length ≤ 5 * i := by
 induction i with
 | zero => simp [goodA]
 | succ i ih =>
  rw [goodA_next l ks ns i (by omega)]
  have := pickAs_len l ns[i] ks (goodA l ks (ns.take i))
  have := ih (by omega)
  omega
def nm4Cs : Array Value := #[.string ⟨#[68, 111, 99]⟩, .string ⟨#[71, 114, 111, 117, 112]⟩, .string ⟨#[84, 101, 97, 109]⟩, .string ⟨#[85, 115, 101, 114]⟩]
def ac3Cs : Array Value := #[.string ⟨#[111, 119, 110]⟩, .string ⟨#[114, 101, 97, 100]⟩, .string ⟨#[119, 114, 105, 116, 101]⟩]
theorem nm4_cells (m : Nat) (hm : m < names4.length) : nm4Cs[m]? = some (.string names4[m]) := by
 match m, hm with
 | 0, _ | 1, _ | 2, _ | 3, _ => rfl
theorem ac3_cells (m : Nat) (hm : m < acts3.length) : ac3Cs[m]? = some (.string acts3[m]) := by
 match m, hm with
 | 0, _ | 1, _ | 2, _ => rfl

/-! ## In memory. -/

/-- While a schema's kinds are chosen, and turned: what lies ahead of W0 stays but the schema's own place. -/
structure G1 (w W0 wr : World) (S : Nat) (av lv : Value) (xs : List N3) (acc : List KP) : Prop where
 below : Below w.heap.size w wr
 size : W0.heap.size ≤ wr.heap.size
 old : ∀ b, b < W0.heap.size → b ≠ S → wr.heap[b]? = W0.heap[b]?
 s : wr.heap[S]? = some (.cells #[lv, av] 33 (0, 0))
 own : wr.ownsRow W0.heap.size 80 3 lv acc.length (xs.map N3.cells).flatten
 len : xs.length = acc.length
 all : ∀ j (h : j < xs.length) (h' : j < acc.length), IsKT wr xs[j] acc[j]
theorem G1.up {w W0 wr wt : World} {S : Nat} {av lv : Value} {xs : List N3} {acc : List KP} (h : G1 w W0 wr S av lv xs acc) (hb : Below wr.heap.size wr wt) : G1 w W0 wt S av lv xs acc :=
 ⟨h.below.trans (hb.mono h.below.size), Nat.le_trans h.size hb.size, fun b h1 h2 => (hb.block b (by have := h.size; omega)).trans (h.old b h1 h2), kept_of_below hb h.s, own_belowS h.own hb, h.len, fun j h1 h2 => (h.all j h1 h2).turn (.of_below hb)⟩
theorem not_typed {w : World} {b : Nat} {cs cur : Array Value} {T T' : TypeId} {fz fz' : Nat × Nat} (h : w.heap[b]? = some (.cells cs T fz)) (h' : w.heap[b]? = some (.cells cur T' fz')) : T = T' := by
 rw [h] at h'
 injection h' with h'
 injection h' with _ h3
theorem sf_ne {T T' : TypeId} (hT : T = 9 ∨ T = 109) (h' : T' = 33 ∨ T' = 80 ∨ T' = 83) : T ≠ T' := by
 rcases hT with rfl | rfl <;> rcases h' with rfl | rfl | rfl <;> decide
/-- One kind more, whatever order it was done in. -/
theorem G1.next {w W0 wr w5 : World} {S : Nat} {av lv v7 : Value} {xs : List N3} {acc : List KP} {x : N3} {k : KP} (h : G1 w W0 wr S av lv xs acc) (_hS : S < W0.heap.size) (hk : IsKT wr x k) (q1 : Below w.heap.size w w5) (q2 : wr.heap.size ≤ w5.heap.size) (q3 : ∀ b, b < wr.heap.size → b ≠ S → lv.ownBlock ≠ some b → w5.heap[b]? = wr.heap[b]?) (q4 : w5.heap[S]? = some (.cells #[v7, av] 33 (0, 0))) (q5 : w5.ownsRow W0.heap.size 80 3 v7 (acc.length + 1) ((xs.map N3.cells).flatten ++ x.cells)) : G1 w W0 w5 S av v7 (xs ++ [x]) (acc ++ [k]) := by
 have hsz := h.size
 have kf : KeepSF wr w5 := ⟨q2, fun b cur T fz hT hb => (q3 b (Array.getElem?_eq_some_iff.1 hb).1 (fun e => by
   rw [e] at hb
   exact sf_ne hT (.inl rfl) (not_typed hb h.s)) (fun e => by
   obtain ⟨cu, f, h2⟩ := own_ty h.own e
   exact sf_ne hT (.inr (.inl rfl)) (not_typed hb h2))).trans hb⟩
 refine ⟨q1, Nat.le_trans hsz q2, fun b hb hne => (q3 b (by omega) hne (fun e => by have := (h.own.lt b e).1; omega)).trans (h.old b hb hne), q4, ?_, by simp [h.len], fun j hj hj' => ?_⟩
 ·rw [List.length_append, flat_app]
  exact q5
 ·by_cases hjl : j < xs.length
  ·rw [List.getElem_append_left hjl, List.getElem_append_left (by have := h.len; omega)]
   exact (h.all j hjl (by have := h.len; omega)).turn kf
  ·have hjk : j = xs.length := by
    have h2 : j < xs.length + 1 := by simpa using hj
    omega
   subst hjk
   rw [List.getElem_append_right (Nat.le_refl _), List.getElem_append_right (by have := h.len; omega)]
   have := h.len
   simp only [Nat.sub_self, List.getElem_cons_zero, show xs.length - acc.length = 0 by omega]
   exact hk.turn kf
/-- Three cells of a row that is owned are written over. -/
theorem own_set3 {w : World} {B n i : Nat} {T : TypeId} {ao : Option Addr} {cap : Nat} {l : List N3} {y : N3} (h : w.ownsRow B T 3 (.slice ao n cap) l.length (l.map N3.cells).flatten) (hi : i < l.length) :
  ∃ g, ao = some ⟨g, 0, none⟩ ∧ (((w.setCell ⟨g, 0 + i * 3, none⟩ (.string y.nm)).setCell ⟨g, 0 + i * 3 + 1, none⟩ (.slice y.ao y.al y.ac)).setCell ⟨g, 0 + i * 3 + 2, none⟩ (.slice y.bo y.bl y.bc)).ownsRow B T 3 (.slice ao n cap) l.length ((l.set i y).map N3.cells).flatten := by
 rcases h.2 with ⟨_, h0⟩ | ⟨g, c, cur, hv, hB, hg, h1, h2, h3, h4⟩
 ·omega
 injection hv with e1 e2 e3
 subst e1 e2 e3
 have g1 := heap_setCell_same w g (0 + i * 3) _ _ (.string y.nm) hg
 have g2 := heap_setCell_same _ g (0 + i * 3 + 1) _ _ (.slice y.ao y.al y.ac) g1
 have g3 := heap_setCell_same _ g (0 + i * 3 + 2) _ _ (.slice y.bo y.bl y.bc) g2
 refine ⟨g, rfl, ?_, .inr ⟨g, _, _, rfl, hB, g3, h1, h2, by simpa using h3, ?_⟩⟩
 ·have e : ∀ m : List N3, ((m.map N3.cells).flatten).length = m.length * 3 := fun m => by
   induction m with
   | nil => rfl
   | cons a t ih => simp only [List.map_cons, List.flatten_cons, List.length_append, List.length_cons, lenN, ih]; omega
  rw [e, List.length_set]
 ·simp only [Array.toList_setIfInBounds]
  have key : ∀ (m : List N3) (j : Nat) (c : List Value), c.take (m.length * 3) = (m.map N3.cells).flatten → j < m.length → (((c.set (0 + j * 3) (.string y.nm)).set (0 + j * 3 + 1) (.slice y.ao y.al y.ac)).set (0 + j * 3 + 2) (.slice y.bo y.bl y.bc)).take (m.length * 3) = ((m.set j y).map N3.cells).flatten := by
   intro m
   induction m with
   | nil => intro j c _ hj; exact absurd hj (Nat.not_lt_zero _)
   | cons a t ih =>
    intro j c hc hj
    have hcl : 3 ≤ c.length := by
     have := congrArg List.length hc
     simp only [List.length_take, List.map_cons, List.flatten_cons, List.length_append, lenN, List.length_cons] at this
     omega
    obtain ⟨c0, c1, c2, c3, rfl⟩ : ∃ c0 c1 c2 c3, c = c0 :: c1 :: c2 :: c3 := by
     match c, hcl with
     | c0 :: c1 :: c2 :: c3, _ => exact ⟨c0, c1, c2, c3, rfl⟩
    have e : (a :: t).length * 3 = t.length * 3 + 1 + 1 + 1 := by simp only [List.length_cons]; omega
    rw [e] at hc ⊢
    simp only [List.take_succ_cons, List.map_cons, List.flatten_cons, N3.cells, List.cons_append, List.nil_append, List.cons.injEq] at hc
    obtain ⟨rfl, rfl, rfl, hc⟩ := hc
    cases j with
    | zero =>
     simp only [Nat.zero_mul, Nat.zero_add, List.set_cons_zero, List.set_cons_succ, List.take_succ_cons, List.map_cons, List.flatten_cons, N3.cells, List.cons_append, List.nil_append, hc]
    | succ j =>
     have := ih j c3 hc (by simpa using hj)
     rw [show 0 + (j + 1) * 3 = (0 + j * 3) + 1 + 1 + 1 by omega, show (0 + j * 3) + 1 + 1 + 1 + 1 = (0 + j * 3 + 1) + 1 + 1 + 1 by omega, show (0 + j * 3) + 1 + 1 + 1 + 2 = (0 + j * 3 + 2) + 1 + 1 + 1 by omega]
     simp only [List.set_cons_succ, List.take_succ_cons, List.map_cons, List.flatten_cons, N3.cells, List.cons_append, List.nil_append, this]
  exact key l i cur.toList h4 hi
/-- A kind is written over by another one. -/
theorem G1.turned {w W0 wr w5 : World} {S i n cap : Nat} {av : Value} {ao : Option Addr} {xs : List N3} {acc : List KP} {y : N3} {k : KP} (h : G1 w W0 w5 S av (.slice ao n cap) xs acc) (_hwr : Below wr.heap.size wr w5) (hS : S < W0.heap.size) (hwS : w.heap.size ≤ S) (hi : i < acc.length) (hy : IsKT w5 y k) :
  ∃ g, ao = some ⟨g, 0, none⟩ ∧ G1 w W0 (((w5.setCell ⟨g, 0 + i * 3, none⟩ (.string y.nm)).setCell ⟨g, 0 + i * 3 + 1, none⟩ (.slice y.ao y.al y.ac)).setCell ⟨g, 0 + i * 3 + 2, none⟩ (.slice y.bo y.bl y.bc)) S av (.slice ao n cap) (xs.set i y) (acc.set i k) := by
 have ho : w5.ownsRow W0.heap.size 80 3 (.slice ao n cap) xs.length (xs.map N3.cells).flatten := by rw [h.len]; exact h.own
 obtain ⟨g, e, ho'⟩ := own_set3 (y := y) ho (show i < xs.length by rw [h.len]; exact hi)
 subst e
 have hg := h.own.lt g rfl
 have ne : ∀ b, b ≠ g → (((w5.setCell ⟨g, 0 + i * 3, none⟩ (.string y.nm)).setCell ⟨g, 0 + i * 3 + 1, none⟩ (.slice y.ao y.al y.ac)).setCell ⟨g, 0 + i * 3 + 2, none⟩ (.slice y.bo y.bl y.bc)).heap[b]? = w5.heap[b]? := fun b hb => (Below.heap_setCell _ ⟨g, 0 + i * 3 + 2, none⟩ _ b hb).trans ((Below.heap_setCell _ ⟨g, 0 + i * 3 + 1, none⟩ _ b hb).trans (Below.heap_setCell _ ⟨g, 0 + i * 3, none⟩ _ b hb))
 have zz : w5.heap.size ≤ (((w5.setCell ⟨g, 0 + i * 3, none⟩ (.string y.nm)).setCell ⟨g, 0 + i * 3 + 1, none⟩ (.slice y.ao y.al y.ac)).setCell ⟨g, 0 + i * 3 + 2, none⟩ (.slice y.bo y.bl y.bc)).heap.size := by simp
 have kf : KeepSF w5 (((w5.setCell ⟨g, 0 + i * 3, none⟩ (.string y.nm)).setCell ⟨g, 0 + i * 3 + 1, none⟩ (.slice y.ao y.al y.ac)).setCell ⟨g, 0 + i * 3 + 2, none⟩ (.slice y.bo y.bl y.bc)) := ⟨zz, fun b cur T fz hT hb => (ne b (fun e => by
   obtain ⟨cu, f, h2⟩ := own_ty h.own (show (Value.slice (some ⟨g, 0, none⟩) n cap).ownBlock = some g from rfl)
   rw [e] at hb
   exact sf_ne hT (.inr (.inl rfl)) (not_typed hb h2))).trans hb⟩
 refine ⟨g, rfl, ((h.below.setCell (p := ⟨g, 0 + i * 3, none⟩) (by show w.heap.size ≤ g; omega) _).setCell (p := ⟨g, 0 + i * 3 + 1, none⟩) (by show w.heap.size ≤ g; omega) _).setCell (p := ⟨g, 0 + i * 3 + 2, none⟩) (by show w.heap.size ≤ g; omega) _, Nat.le_trans h.size zz, fun b hb hne => (ne b (by omega)).trans (h.old b hb hne), (ne S (by omega)).trans h.s, ?_, by simp [h.len], fun j hj hj' => ?_⟩
 ·rw [List.length_set, ← h.len]
  exact ho'
 ·simp only [List.length_set] at hj hj'
  by_cases e : i = j
  ·subst e
   simp only [List.getElem_set_self]
   exact hy.turn kf
  ·simp only [List.getElem_set_ne e]
   exact (h.all j hj hj').turn kf
/-- A schema whose kinds are those, in short. -/
theorem G1.isS {w W0 wr : World} {S n cap : Nat} {ko : Option Addr} {av : Value} {xs : List N3} {acc : List KP} (h : G1 w W0 wr S av (.slice ko n cap) xs acc) {ac : List AP} {ao : Option Addr} {c : Nat} (hav : av = .slice ao ac.length c) (ha : IsAs wr ao ac) : IsS wr (.agg #[.slice ko n cap, av]) ⟨acc, ac⟩ := by
 have ho : wr.ownsRow W0.heap.size 80 3 (.slice ko n cap) xs.length (xs.map N3.cells).flatten := by rw [h.len]; exact h.own
 obtain ⟨ko', kc', e1, r1, _⟩ := own_row lenN ho
 injection e1 with e11 e12 e13
 subst e11 e12 e13
 exact ⟨⟨ko, cap, ao, c, by rw [hav, h.len], ⟨⟨xs, h.len, r1, fun j a b => (h.all j a b).is⟩⟩, ha⟩⟩
end Go.Proofs.Ytagnbpobcijakaa
