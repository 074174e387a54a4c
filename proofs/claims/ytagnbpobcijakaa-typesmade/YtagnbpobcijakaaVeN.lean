/-
 A region that draws its order: operations that answer and such as do not, in any mixture, by an invariant over what has been done.
-/
import Derived.Test.YtagnbpobcijakaaVeKN
namespace Go.Proofs.Ytagnbpobcijakaa
open Go.RowKit Go.Sort

/-- What can be told by looking: each operation that answers writes a slot of its own. -/
def dstsD (l : List Oper) (size : Nat) : Bool :=
 ((List.range l.length).all fun i => ((dstOf l i).map fun d => decide (d < size)).getD true) &&
 ((List.range l.length).all fun i => (List.range l.length).all fun j => decide (i = j) || (dstOf l i).isNone || decide (dstOf l i ≠ dstOf l j))

theorem dstOf_lt {l : List Oper} {i d : Nat} (h : dstOf l i = some d) : i < l.length := by
 unfold dstOf at h
 cases ho : l[i]? with
 | none => rw [ho] at h; cases h
 | some o => exact (List.getElem?_eq_some_iff.1 ho).1

structure KnownD (l : List Oper) (Sp : Nat → Value → World → Prop) (a : Act) (R : (Nat → Bool) → Act → World → Prop) (L : Nat → Bool) (a' : Act) (w' : World) : Prop where
 sp : ∀ i d, dstOf l i = some d → L i = true → Sp i (a'.tmps.getD d undef) w'
 slot : ∀ s, (∀ i, dstOf l i ≠ some s) → a'.tmps.getD s undef = a.tmps.getD s undef
 defers : a'.defers = a.defers
 size : a'.tmps.size = a.tmps.size
 world : R L a' w'

theorem putAll_outD (l : List Oper) (a : Act) (v : Nat → Value) (s : Nat) : ∀ k, (∀ i, i < k → dstOf l i ≠ some s) → (putAll l a v k).tmps.getD s undef = a.tmps.getD s undef
 | 0, _ => rfl
 | k + 1, h => by
  have hk := h k (Nat.lt_succ_self k)
  show ((putAll l a v k).put (dstOf l k) (v k)).tmps.getD s undef = _
  cases hd : dstOf l k with
  | none => exact putAll_outD l a v s k fun i hi => h i (by omega)
  | some d =>
   rw [hd] at hk
   rw [put_other _ _ _ _ (fun e => hk (by rw [e])), putAll_outD l a v s k fun i hi => h i (by omega)]
theorem putAll_inD (l : List Oper) (a : Act) (v : Nat → Value) (i d : Nat) (hd : dstOf l i = some d) (hs : d < a.tmps.size) : ∀ k, i < k → (∀ j, j < k → j ≠ i → dstOf l j ≠ some d) → (putAll l a v k).tmps.getD d undef = v i
 | 0, h, _ => by omega
 | k + 1, h, hne => by
  show ((putAll l a v k).put (dstOf l k) (v k)).tmps.getD d undef = _
  by_cases e : k = i
  ·subst e
   rw [hd, put_same _ _ _ (by rw [putAll_size]; exact hs)]
  ·have ih := putAll_inD l a v i d hd hs k (by omega) fun j hj hji => hne j (by omega) hji
   have hk := hne k (Nat.lt_succ_self k) e
   cases hdk : dstOf l k with
   | none => exact ih
   | some d' =>
    rw [hdk] at hk
    rw [put_other _ _ _ _ (fun e => hk (by rw [e]))]
    exact ih

theorem wp_specsD {P : Program} {id : Nat} {Q : Exit → Act → World → Prop} {a : Act} {w : World} {l : List Oper} (Sp : Nat → Value → World → Prop) (R : (Nat → Bool) → Act → World → Prop) (hm : P.follows .mixedOrders = true) (hB : elderB l = true) (hD : dstsD l a.tmps.size = true)
  (hR : R (fun _ => false) a w.drew)
  (hstep : ∀ i o d, l[i]? = some o → dstOf l i = some d → ∀ (L : Nat → Bool) a' w', L i = false → (∀ j, waits l i j = true → L j = true) → R L a' w' → (∀ j e, dstOf l j = some e → waits l i j = true → Sp j (a'.tmps.getD e undef) w') → (∀ s, (∀ i, dstOf l i ≠ some s) → a'.tmps.getD s undef = a.tmps.getD s undef) → a'.tmps.size = a.tmps.size →
   ∀ K : Act → World → Prop, (∀ v w'', Sp i v w'' → R (fun j => decide (j = i) || L j) (a'.put o.dst v) w'' → (∀ j u, Sp j u w' → Sp j u w'') → K (a'.put o.dst v) w'') → o.wp P a' w' K Q)
  (hput : ∀ i o, l[i]? = some o → dstOf l i = none → ∀ (L : Nat → Bool) a' w', L i = false → (∀ j, waits l i j = true → L j = true) → R L a' w' → (∀ j e, dstOf l j = some e → waits l i j = true → Sp j (a'.tmps.getD e undef) w') →
   ∀ K : Act → World → Prop, (∀ w'', R (fun j => decide (j = i) || L j) a' w'' → (∀ j u, Sp j u w' → Sp j u w'') → ∀ v, K (a'.put o.dst v) w'') → o.wp P a' w' K Q)
  (hend : ∀ (v : Nat → Value) (L : Nat → Bool) w', (∀ i, i < l.length → L i = true) → R L (putAll l a v l.length) w' → (∀ i d, dstOf l i = some d → Sp i (v i) w' ∧ (putAll l a v l.length).tmps.getD d undef = v i) → Q .normal (putAll l a v l.length) w') :
  (Code.region id l.toArray true).wp P Q a w := by
 simp only [dstsD, Bool.and_eq_true] at hD
 obtain ⟨hd, hne⟩ := hD
 have hlt : ∀ i d, dstOf l i = some d → d < a.tmps.size := fun i d h => by
  have := List.all_eq_true.1 hd i (List.mem_range.2 (dstOf_lt h))
  rw [h] at this
  simpa using this
 have hnd : ∀ i j d, dstOf l i = some d → dstOf l j = some d → i = j := fun i j d hi hj => by
  have := List.all_eq_true.1 (List.all_eq_true.1 hne i (List.mem_range.2 (dstOf_lt hi))) j (List.mem_range.2 (dstOf_lt hj))
  rw [hi, hj] at this
  simpa using this
 refine wp_inv (KnownD l Sp a R) hm hB ⟨fun _ _ _ h => (by cases h), fun _ _ => rfl, rfl, rfl, hR⟩ ?_ ?_
 ·intro i o ho L a' w' hL hw K
  have hdo : dstOf l i = o.dst := by rw [dstOf, ho]; rfl
  cases hdst : o.dst with
  | some d =>
   rw [hdst] at hdo
   refine hstep i o d ho hdo L a' w' hL hw K.world (fun j e hj h => K.sp j e hj (hw j h)) K.slot K.size _ (fun v w'' hv hRw hup => ?_)
   rw [hdst] at hRw ⊢
   refine ⟨fun j e hj hlj => ?_, fun s hs => ?_, ?_, ?_, hRw⟩
   ·by_cases e1 : j = i
    ·subst e1
     obtain rfl : d = e := Option.some.inj (hdo.symm.trans hj)
     rw [put_same _ _ _ (by rw [K.size]; exact hlt _ _ hj)]
     exact hv
    ·rw [put_other _ _ _ _ (fun h => e1 (hnd j i e hj (by rw [hdo, h])))]
     simp only [e1, decide_false, Bool.false_or] at hlj
     exact hup _ _ (K.sp j e hj hlj)
   ·rw [put_other _ _ _ _ (fun h => hs i (by rw [hdo, h]))]
    exact K.slot s hs
   ·rw [put_defers]
    exact K.defers
   ·rw [put_size]
    exact K.size
  | none =>
   rw [hdst] at hdo
   refine hput i o ho hdo L a' w' hL hw K.world (fun j e hj h => K.sp j e hj (hw j h)) _ (fun w'' hRw hup v => ?_)
   rw [hdst]
   have e0 : a'.put none v = a' := rfl
   rw [e0]
   refine ⟨fun j e hj hlj => ?_, K.slot, K.defers, K.size, hRw⟩
   have e1 : j ≠ i := fun h => by rw [h, hdo] at hj; cases hj
   simp only [e1, decide_false, Bool.false_or] at hlj
   exact hup _ _ (K.sp j e hj hlj)
 ·intro L a' w' hall K
  have hin : ∀ (v : Nat → Value) i d, dstOf l i = some d → (putAll l a v l.length).tmps.getD d undef = v i := fun v i d hi =>
   putAll_inD l a v i d hi (hlt i d hi) l.length (dstOf_lt hi) fun j _ hji hj => hji (hnd j i d hj hi)
  have e : a' = putAll l a (fun i => a'.tmps.getD ((dstOf l i).getD 0) undef) l.length := by
   refine act_ext (by rw [K.size, putAll_size]) (fun s => ?_) (by rw [K.defers, putAll_defers])
   by_cases hx : ∃ i, dstOf l i = some s
   ·obtain ⟨i, hi⟩ := hx
    rw [hin _ i s hi, hi]
    rfl
   ·have hx' : ∀ i, dstOf l i ≠ some s := fun i h => hx ⟨i, h⟩
    rw [putAll_outD l a _ s l.length (fun i _ => hx' i), K.slot s hx']
  have hRw' := K.world
  rw [e] at hRw'
  rw [e]
  refine hend _ L w' hall hRw' (fun i d hi => ⟨?_, hin _ i d hi⟩)
  have := K.sp i d hi (hall i (dstOf_lt hi))
  rw [hi]
  exact this
end Go.Proofs.Ytagnbpobcijakaa
