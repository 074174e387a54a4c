/-
  A region that draws its order, by an invariant over what has been done: for regions whose stores may come ahead of other operations.
  A region that draws its order: operations that answer and such as do not, in any mixture, by an invariant over what has been done.
  A region that draws its order, some of whose operations are guarded, where all guards say yes.
  A region that draws its order, some of whose operations are guarded; a guard may say no.
-/
import Derived.Test.YthmmplmppchfmaaVeK
namespace Go.Proofs.Ythmmplmppchfmaa
open Go.RowKit Go.Sort

/-- What can be told by looking: no operation is guarded, each waits for elder ones alone (in the sense of the order that is drawn). -/
def elderB (l : List Oper) : Bool :=
  (List.range l.length).all fun i => ((l[i]?).map fun o => o.guard.isNone && o.after.all fun e => !(Region.binds .any e) || decide (e.on < i)).getD false

theorem wp_inv {P : Program} {id : Nat} {Q : Exit → Act → World → Prop} {a : Act} {w : World} {l : List Oper} (I : (Nat → Bool) → Act → World → Prop) (hm : P.follows .mixedOrders = true) (hB : elderB l = true)
    (h0 : I (fun _ => false) a w.drew)
    (hstep : ∀ i o, l[i]? = some o → ∀ (L : Nat → Bool) a' w', L i = false → (∀ j, waits l i j = true → L j = true) → I L a' w' → o.wp P a' w' (fun a'' w'' => I (fun j => decide (j = i) || L j) a'' w'') Q)
    (hend : ∀ (L : Nat → Bool) a' w', (∀ i, i < l.length → L i = true) → I L a' w' → Q .normal a' w') :
    (Code.region id l.toArray true).wp P Q a w := by
  have hgo : ∀ i, i < l.length → ∃ o, l[i]? = some o ∧ o.guard = none ∧ ∀ e ∈ o.after, Region.binds .any e = true → e.on < i := fun i hi => by
    have := List.all_eq_true.1 hB i (List.mem_range.2 hi)
    cases ho : l[i]? with
    | none => rw [ho] at this; cases this
    | some o =>
      rw [ho] at this
      simp only [Option.map_some, Option.getD_some, Bool.and_eq_true, Option.isNone_iff_eq_none, Array.all_eq_true_iff_forall_mem, Bool.or_eq_true, Bool.not_eq_true', decide_eq_true_eq] at this
      refine ⟨o, rfl, this.1, fun e he hb => ?_⟩
      rcases this.2 e he with h | h
      · rw [hb] at h; cases h
      · exact h
  have key : ∀ (f : Nat) (listed : Array Bool) (a' : Act) (w' : World), unl listed l.length = f → listed.size = l.length → I (fun j => listed.getD j false) a' w' → wpAny P .any l.toArray Q f listed a' w' := by
    intro f
    induction f with
    | zero =>
      intro listed a' w' hu hsz hI
      have hall := unl_zero listed l.length hu
      refine ⟨?_, hend _ a' w' hall hI⟩
      cases hr : Region.ready .any l.toArray listed with
      | nil => rfl
      | cons i t =>
        have hi : i ∈ Region.ready .any l.toArray listed := by rw [hr]; exact List.mem_cons_self
        obtain ⟨hun, o, ho, _⟩ := mem_ready.1 hi
        have hlt : i < l.length := by
          have := (Array.getElem?_eq_some_iff.1 ho).1
          simpa using this
        have h1 := hall i hlt
        rw [getD_both hun] at h1
        cases h1
    | succ f ih =>
      intro listed a' w' hu hsz hI
      obtain ⟨i0, hi0, hf0, hlow⟩ := unl_pos listed l.length (by omega)
      have hu0 : listed.getD i0 true = false := getD_in (by omega) hf0
      refine ⟨fun hnil => ?_, fun i hi => ?_⟩
      · exfalso
        obtain ⟨o, ho, _, hon⟩ := hgo i0 hi0
        have : i0 ∈ Region.ready .any l.toArray listed := mem_ready.2 ⟨hu0, o, by simpa using ho, fun e he hb => hlow _ (hon e he hb)⟩
        rw [hnil] at this
        cases this
      · obtain ⟨hun, o, ho, hdep⟩ := mem_ready.1 hi
        have hin : i < l.length := by
          have := (Array.getElem?_eq_some_iff.1 ho).1
          simpa using this
        have ho' : l[i]? = some o := by simpa using ho
        obtain ⟨o2, ho2, hgd, hon⟩ := hgo i hin
        obtain rfl : o2 = o := Option.some.inj (ho2.symm.trans ho')
        unfold wpOp
        simp only [ho]
        rw [if_pos (by simp [Region.wanted, hgd])]
        left
        refine Oper.wp_mono (fun a'' w'' h => ?_) (hstep i o2 ho' (fun j => listed.getD j false) a' w' (getD_both hun) (fun j hj => ?_) hI)
        · refine ih _ _ _ (by have := unl_set listed i (by omega) (getD_both hun) l.length hin; omega) (by simpa using hsz) ?_
          have e : (fun j => (listed.setIfInBounds i true).getD j false) = fun j => decide (j = i) || listed.getD j false := by
            funext j
            by_cases h : j = i
            · subst h
              rw [getD_set_same (by omega)]
              simp
            · rw [getD_set_ne false (Ne.symm h)]
              simp [h]
          rw [e]
          exact h
        · unfold waits at hj
          rw [ho'] at hj
          simp only [Option.map_some, Option.getD_some] at hj
          obtain ⟨e, he, hb⟩ := Array.any_eq_true'.1 hj
          simp only [Bool.and_eq_true, beq_iff_eq] at hb
          have := hdep e he hb.1
          rw [hb.2] at this
          exact this
  refine wp_region_any hm ?_
  have hun : ∀ k, unl (Array.replicate l.toArray.size false) k = k := fun k => by
    induction k with
    | zero => rfl
    | succ k ih =>
      unfold unl
      rw [ih, getD_replicate_false]
      rfl
  have h0' : I (fun j => (Array.replicate l.toArray.size false).getD j false) a w.drew := by
    have e : (fun j => (Array.replicate l.toArray.size false).getD j false) = fun _ => false := funext fun j => getD_replicate_false _ _
    rw [e]
    exact h0
  have := key l.length (Array.replicate l.toArray.size false) a w.drew (hun _) (by simp) h0'
  rw [show l.toArray.size = l.length by simp] at this ⊢
  exact this

/-- The first n operations write slots of their own, the others none. -/
def dstsB (l : List Oper) (n size : Nat) : Bool :=
  decide (n ≤ l.length) &&
  ((List.range n).all fun i => ((dstOf l i).map fun d => decide (d < size)).getD false) &&
  ((List.range n).all fun i => (List.range n).all fun j => decide (i = j) || decide (dstOf l i ≠ dstOf l j)) &&
  ((List.range l.length).all fun i => decide (i < n) || (dstOf l i).isNone)

structure KnownB (l : List Oper) (n : Nat) (Sp : Nat → Value → World → Prop) (a : Act) (R : (Nat → Bool) → Act → World → Prop) (L : Nat → Bool) (a' : Act) (w' : World) : Prop where
  sp : ∀ i, i < n → L i = true → Sp i (a'.tmps.getD (slotOf l i) undef) w'
  slot : ∀ s, (∀ i, i < n → slotOf l i ≠ s) → a'.tmps.getD s undef = a.tmps.getD s undef
  defers : a'.defers = a.defers
  size : a'.tmps.size = a.tmps.size
  world : R L a' w'

/-- The operations of a region that draws its order, each by what it answers; stores may come ahead of other operations. -/
theorem wp_specsB {P : Program} {id : Nat} {Q : Exit → Act → World → Prop} {a : Act} {w : World} {l : List Oper} (n : Nat) (Sp : Nat → Value → World → Prop) (R : (Nat → Bool) → Act → World → Prop) (hm : P.follows .mixedOrders = true) (hB : elderB l = true) (hD : dstsB l n a.tmps.size = true)
    (hR : R (fun _ => false) a w.drew)
    (hstep : ∀ i o, i < n → l[i]? = some o → ∀ (L : Nat → Bool) a' w', L i = false → (∀ j, waits l i j = true → L j = true) → R L a' w' → (∀ j, j < n → waits l i j = true → Sp j (a'.tmps.getD (slotOf l j) undef) w') → (∀ s, (∀ i, i < n → slotOf l i ≠ s) → a'.tmps.getD s undef = a.tmps.getD s undef) → a'.tmps.size = a.tmps.size →
      ∀ K : Act → World → Prop, (∀ v w'', Sp i v w'' → R (fun j => decide (j = i) || L j) (a'.put o.dst v) w'' → (∀ j u, Sp j u w' → Sp j u w'') → K (a'.put o.dst v) w'') → o.wp P a' w' K Q)
    (hput : ∀ i o, n ≤ i → l[i]? = some o → ∀ (L : Nat → Bool) a' w', L i = false → (∀ j, waits l i j = true → L j = true) → R L a' w' → (∀ j, j < n → waits l i j = true → Sp j (a'.tmps.getD (slotOf l j) undef) w') →
      ∀ K : Act → World → Prop, (∀ w'', R (fun j => decide (j = i) || L j) a' w'' → (∀ j u, Sp j u w' → Sp j u w'') → ∀ v, K (a'.put o.dst v) w'') → o.wp P a' w' K Q)
    (hend : ∀ (v : Nat → Value) (L : Nat → Bool) w', (∀ i, i < l.length → L i = true) → R L (putAll l a v n) w' → (∀ i, i < n → Sp i (v i) w') → Q .normal (putAll l a v n) w') :
    (Code.region id l.toArray true).wp P Q a w := by
  simp only [dstsB, Bool.and_eq_true, decide_eq_true_eq] at hD
  obtain ⟨⟨⟨hn, hd⟩, hne⟩, hno⟩ := hD
  have hdo : ∀ i, i < n → dstOf l i = some (slotOf l i) ∧ slotOf l i < a.tmps.size := fun i hi => by
    have := List.all_eq_true.1 hd i (List.mem_range.2 hi)
    unfold slotOf
    cases ho : dstOf l i with
    | none => rw [ho] at this; cases this
    | some d =>
      rw [ho] at this
      simp only [Option.map_some, Option.getD_some, decide_eq_true_eq] at this
      exact ⟨rfl, this⟩
  have hnd : ∀ i j, i < n → j < n → slotOf l i = slotOf l j → i = j := fun i j hi hj e => by
    have := List.all_eq_true.1 (List.all_eq_true.1 hne i (List.mem_range.2 hi)) j (List.mem_range.2 hj)
    simp only [Bool.or_eq_true, decide_eq_true_eq] at this
    rcases this with h | h
    · exact h
    · exact absurd (by rw [(hdo i hi).1, (hdo j hj).1, e]) h
  refine wp_inv (KnownB l n Sp a R) hm hB ⟨fun _ _ h => (by cases h), fun _ _ => rfl, rfl, rfl, hR⟩ ?_ ?_
  · intro i o ho L a' w' hL hw K
    by_cases hi : i < n
    · refine hstep i o hi ho L a' w' hL hw K.world (fun j hj h => K.sp j hj (hw j h)) K.slot K.size _ (fun v w'' hv hRw hup => ?_)
      have hdst : o.dst = some (slotOf l i) := by
        have := (hdo i hi).1
        rw [dstOf, ho] at this
        simpa using this
      have hp : ∀ s, (a'.put o.dst v).tmps.getD s undef = if s = slotOf l i then v else a'.tmps.getD s undef := fun s => by
        rw [hdst]
        by_cases hsi : s = slotOf l i
        · subst hsi
          rw [if_pos rfl]
          have : slotOf l i < a'.tmps.size := by rw [K.size]; exact (hdo i hi).2
          simp [Act.put, this]
        · rw [if_neg hsi]
          simp [Act.put, Array.getElem?_setIfInBounds_ne (Ne.symm hsi)]
      refine ⟨fun j hj hlj => ?_, fun s hs => ?_, ?_, ?_, hRw⟩
      · rw [hp]
        by_cases e : j = i
        · subst e
          rw [if_pos rfl]
          exact hv
        · rw [if_neg (fun h => e (hnd j i hj hi h))]
          simp only [e, decide_false, Bool.false_or] at hlj
          exact hup _ _ (K.sp j hj hlj)
      · rw [hp, if_neg (fun h => hs i hi h.symm)]
        exact K.slot s hs
      · rw [put_defers]
        exact K.defers
      · rw [put_size]
        exact K.size
    · refine hput i o (Nat.le_of_not_lt hi) ho L a' w' hL hw K.world (fun j hj h => K.sp j hj (hw j h)) _ (fun w'' hRw hup v => ?_)
      have hdst : o.dst = none := by
        have hil : i < l.length := (List.getElem?_eq_some_iff.1 ho).1
        have := List.all_eq_true.1 hno i (List.mem_range.2 hil)
        simp only [hi, decide_false, Bool.false_or, dstOf, ho, Option.bind_some, Option.isNone_iff_eq_none] at this
        exact this
      rw [hdst]
      have e0 : a'.put none v = a' := rfl
      rw [e0]
      refine ⟨fun j hj hlj => ?_, K.slot, K.defers, K.size, hRw⟩
      have e : j ≠ i := fun h => hi (h ▸ hj)
      simp only [e, decide_false, Bool.false_or] at hlj
      exact hup _ _ (K.sp j hj hlj)
  · intro L a' w' hall K
    have e : a' = putAll l a (fun i => a'.tmps.getD (slotOf l i) undef) n := by
      refine act_ext (by rw [K.size, putAll_size]) (fun s => ?_) (by rw [K.defers, putAll_defers])
      by_cases hx : ∃ i, i < n ∧ slotOf l i = s
      · obtain ⟨i, hi, rfl⟩ := hx
        rw [putAll_in l a _ i n hdo (fun j hj hji => fun h => hji (hnd j i hj hi h)) hi]
      · have hx' : ∀ i, i < n → slotOf l i ≠ s := fun i hi h => hx ⟨i, hi, h⟩
        rw [putAll_out l a _ s n (fun i hi => (hdo i hi).1) hx', K.slot s hx']
    have hRw' := K.world
    rw [e] at hRw'
    rw [e]
    exact hend _ L w' hall hRw' (fun i hi => K.sp i hi (hall i (by omega)))
end Go.Proofs.Ythmmplmppchfmaa

namespace Go.Proofs.Ythmmplmppchfmaa
open Go.RowKit Go.Sort

/-- What can be told by looking: each operation that answers writes a slot of its own. -/
def dstsD (l : List Oper) (size : Nat) : Bool :=
  ((List.range l.length).all fun i => ((dstOf l i).map fun d => decide (d < size)).getD true) &&
  ((List.range l.length).all fun i => (List.range l.length).all fun j => decide (i = j) || (dstOf l i).isNone || decide (dstOf l i ≠ dstOf l j))

theorem dstOf_lt {l : List Oper} {i d : Nat} (h : dstOf l i = some d) : i < l.length := by
  unfold dstOf at h
  cases ho : l[i]? with
  | none => rw [ho] at h; cases h
  | some o => exact (List.getElem?_eq_some_iff.1 ho).1

structure KnownD (l : List Oper) (Sp : Nat → Value → World → Prop) (a : Act) (R : (Nat → Bool) → Act → World → Prop) (L : Nat → Bool) (a' : Act) (w' : World) : Prop where
  sp : ∀ i d, dstOf l i = some d → L i = true → Sp i (a'.tmps.getD d undef) w'
  slot : ∀ s, (∀ i, dstOf l i ≠ some s) → a'.tmps.getD s undef = a.tmps.getD s undef
  defers : a'.defers = a.defers
  size : a'.tmps.size = a.tmps.size
  world : R L a' w'

theorem putAll_outD (l : List Oper) (a : Act) (v : Nat → Value) (s : Nat) : ∀ k, (∀ i, i < k → dstOf l i ≠ some s) → (putAll l a v k).tmps.getD s undef = a.tmps.getD s undef
  | 0, _ => rfl
  | k + 1, h => by
    have hk := h k (Nat.lt_succ_self k)
    show ((putAll l a v k).put (dstOf l k) (v k)).tmps.getD s undef = _
    cases hd : dstOf l k with
    | none => exact putAll_outD l a v s k fun i hi => h i (by omega)
    | some d =>
      rw [hd] at hk
      rw [put_other _ _ _ _ (fun e => hk (by rw [e])), putAll_outD l a v s k fun i hi => h i (by omega)]
theorem putAll_inD (l : List Oper) (a : Act) (v : Nat → Value) (i d : Nat) (hd : dstOf l i = some d) (hs : d < a.tmps.size) : ∀ k, i < k → (∀ j, j < k → j ≠ i → dstOf l j ≠ some d) → (putAll l a v k).tmps.getD d undef = v i
  | 0, h, _ => by omega
  | k + 1, h, hne => by
    show ((putAll l a v k).put (dstOf l k) (v k)).tmps.getD d undef = _
    by_cases e : k = i
    · subst e
      rw [hd, put_same _ _ _ (by rw [putAll_size]; exact hs)]
    · have ih := putAll_inD l a v i d hd hs k (by omega) fun j hj hji => hne j (by omega) hji
      have hk := hne k (Nat.lt_succ_self k) e
      cases hdk : dstOf l k with
      | none => exact ih
      | some d' =>
        rw [hdk] at hk
        rw [put_other _ _ _ _ (fun e => hk (by rw [e]))]
        exact ih

theorem wp_specsD {P : Program} {id : Nat} {Q : Exit → Act → World → Prop} {a : Act} {w : World} {l : List Oper} (Sp : Nat → Value → World → Prop) (R : (Nat → Bool) → Act → World → Prop) (hm : P.follows .mixedOrders = true) (hB : elderB l = true) (hD : dstsD l a.tmps.size = true)
    (hR : R (fun _ => false) a w.drew)
    (hstep : ∀ i o d, l[i]? = some o → dstOf l i = some d → ∀ (L : Nat → Bool) a' w', L i = false → (∀ j, waits l i j = true → L j = true) → R L a' w' → (∀ j e, dstOf l j = some e → waits l i j = true → Sp j (a'.tmps.getD e undef) w') → (∀ s, (∀ i, dstOf l i ≠ some s) → a'.tmps.getD s undef = a.tmps.getD s undef) → a'.tmps.size = a.tmps.size →
      ∀ K : Act → World → Prop, (∀ v w'', Sp i v w'' → R (fun j => decide (j = i) || L j) (a'.put o.dst v) w'' → (∀ j u, Sp j u w' → Sp j u w'') → K (a'.put o.dst v) w'') → o.wp P a' w' K Q)
    (hput : ∀ i o, l[i]? = some o → dstOf l i = none → ∀ (L : Nat → Bool) a' w', L i = false → (∀ j, waits l i j = true → L j = true) → R L a' w' → (∀ j e, dstOf l j = some e → waits l i j = true → Sp j (a'.tmps.getD e undef) w') →
      ∀ K : Act → World → Prop, (∀ w'', R (fun j => decide (j = i) || L j) a' w'' → (∀ j u, Sp j u w' → Sp j u w'') → ∀ v, K (a'.put o.dst v) w'') → o.wp P a' w' K Q)
    (hend : ∀ (v : Nat → Value) (L : Nat → Bool) w', (∀ i, i < l.length → L i = true) → R L (putAll l a v l.length) w' → (∀ i d, dstOf l i = some d → Sp i (v i) w' ∧ (putAll l a v l.length).tmps.getD d undef = v i) → Q .normal (putAll l a v l.length) w') :
    (Code.region id l.toArray true).wp P Q a w := by
  simp only [dstsD, Bool.and_eq_true] at hD
  obtain ⟨hd, hne⟩ := hD
  have hlt : ∀ i d, dstOf l i = some d → d < a.tmps.size := fun i d h => by
    have := List.all_eq_true.1 hd i (List.mem_range.2 (dstOf_lt h))
    rw [h] at this
    simpa using this
  have hnd : ∀ i j d, dstOf l i = some d → dstOf l j = some d → i = j := fun i j d hi hj => by
    have := List.all_eq_true.1 (List.all_eq_true.1 hne i (List.mem_range.2 (dstOf_lt hi))) j (List.mem_range.2 (dstOf_lt hj))
    rw [hi, hj] at this
    simpa using this
  refine wp_inv (KnownD l Sp a R) hm hB ⟨fun _ _ _ h => (by cases h), fun _ _ => rfl, rfl, rfl, hR⟩ ?_ ?_
  · intro i o ho L a' w' hL hw K
    have hdo : dstOf l i = o.dst := by rw [dstOf, ho]; rfl
    cases hdst : o.dst with
    | some d =>
      rw [hdst] at hdo
      refine hstep i o d ho hdo L a' w' hL hw K.world (fun j e hj h => K.sp j e hj (hw j h)) K.slot K.size _ (fun v w'' hv hRw hup => ?_)
      rw [hdst] at hRw ⊢
      refine ⟨fun j e hj hlj => ?_, fun s hs => ?_, ?_, ?_, hRw⟩
      · by_cases e1 : j = i
        · subst e1
          obtain rfl : d = e := Option.some.inj (hdo.symm.trans hj)
          rw [put_same _ _ _ (by rw [K.size]; exact hlt _ _ hj)]
          exact hv
        · rw [put_other _ _ _ _ (fun h => e1 (hnd j i e hj (by rw [hdo, h])))]
          simp only [e1, decide_false, Bool.false_or] at hlj
          exact hup _ _ (K.sp j e hj hlj)
      · rw [put_other _ _ _ _ (fun h => hs i (by rw [hdo, h]))]
        exact K.slot s hs
      · rw [put_defers]
        exact K.defers
      · rw [put_size]
        exact K.size
    | none =>
      rw [hdst] at hdo
      refine hput i o ho hdo L a' w' hL hw K.world (fun j e hj h => K.sp j e hj (hw j h)) _ (fun w'' hRw hup v => ?_)
      rw [hdst]
      have e0 : a'.put none v = a' := rfl
      rw [e0]
      refine ⟨fun j e hj hlj => ?_, K.slot, K.defers, K.size, hRw⟩
      have e1 : j ≠ i := fun h => by rw [h, hdo] at hj; cases hj
      simp only [e1, decide_false, Bool.false_or] at hlj
      exact hup _ _ (K.sp j e hj hlj)
  · intro L a' w' hall K
    have hin : ∀ (v : Nat → Value) i d, dstOf l i = some d → (putAll l a v l.length).tmps.getD d undef = v i := fun v i d hi =>
      putAll_inD l a v i d hi (hlt i d hi) l.length (dstOf_lt hi) fun j _ hji hj => hji (hnd j i d hj hi)
    have e : a' = putAll l a (fun i => a'.tmps.getD ((dstOf l i).getD 0) undef) l.length := by
      refine act_ext (by rw [K.size, putAll_size]) (fun s => ?_) (by rw [K.defers, putAll_defers])
      by_cases hx : ∃ i, dstOf l i = some s
      · obtain ⟨i, hi⟩ := hx
        rw [hin _ i s hi, hi]
        rfl
      · have hx' : ∀ i, dstOf l i ≠ some s := fun i h => hx ⟨i, h⟩
        rw [putAll_outD l a _ s l.length (fun i _ => hx' i), K.slot s hx']
    have hRw' := K.world
    rw [e] at hRw'
    rw [e]
    refine hend _ L w' hall hRw' (fun i d hi => ⟨?_, hin _ i d hi⟩)
    have := K.sp i d hi (hall i (dstOf_lt hi))
    rw [hi]
    exact this
end Go.Proofs.Ythmmplmppchfmaa

namespace Go.Proofs.Ythmmplmppchfmaa
open Go.RowKit Go.Sort

/-- What can be told by looking: each waits for elder ones alone. -/
def elderG (l : List Oper) : Bool :=
  (List.range l.length).all fun i => ((l[i]?).map fun o => o.after.all fun e => !(Region.binds .any e) || decide (e.on < i)).getD false

theorem wp_invG {P : Program} {id : Nat} {Q : Exit → Act → World → Prop} {a : Act} {w : World} {l : List Oper} (I : (Nat → Bool) → Act → World → Prop) (hm : P.follows .mixedOrders = true) (hB : elderG l = true)
    (h0 : I (fun _ => false) a w.drew)
    (hwant : ∀ i o, l[i]? = some o → ∀ (L : Nat → Bool) a' w', L i = false → (∀ j, waits l i j = true → L j = true) → I L a' w' → Region.wanted o (yielded l.toArray a'.tmps) = true)
    (hstep : ∀ i o, l[i]? = some o → ∀ (L : Nat → Bool) a' w', L i = false → (∀ j, waits l i j = true → L j = true) → I L a' w' → o.wp P a' w' (fun a'' w'' => I (fun j => decide (j = i) || L j) a'' w'') Q)
    (hend : ∀ (L : Nat → Bool) a' w', (∀ i, i < l.length → L i = true) → I L a' w' → Q .normal a' w') :
    (Code.region id l.toArray true).wp P Q a w := by
  have hgo : ∀ i, i < l.length → ∃ o, l[i]? = some o ∧ ∀ e ∈ o.after, Region.binds .any e = true → e.on < i := fun i hi => by
    have := List.all_eq_true.1 hB i (List.mem_range.2 hi)
    cases ho : l[i]? with
    | none => rw [ho] at this; cases this
    | some o =>
      rw [ho] at this
      simp only [Option.map_some, Option.getD_some, Array.all_eq_true_iff_forall_mem, Bool.or_eq_true, Bool.not_eq_true', decide_eq_true_eq] at this
      refine ⟨o, rfl, fun e he hb => ?_⟩
      rcases this e he with h | h
      · rw [hb] at h; cases h
      · exact h
  have key : ∀ (f : Nat) (listed : Array Bool) (a' : Act) (w' : World), unl listed l.length = f → listed.size = l.length → I (fun j => listed.getD j false) a' w' → wpAny P .any l.toArray Q f listed a' w' := by
    intro f
    induction f with
    | zero =>
      intro listed a' w' hu hsz hI
      have hall := unl_zero listed l.length hu
      refine ⟨?_, hend _ a' w' hall hI⟩
      cases hr : Region.ready .any l.toArray listed with
      | nil => rfl
      | cons i t =>
        have hi : i ∈ Region.ready .any l.toArray listed := by rw [hr]; exact List.mem_cons_self
        obtain ⟨hun, o, ho, _⟩ := mem_ready.1 hi
        have hlt : i < l.length := by
          have := (Array.getElem?_eq_some_iff.1 ho).1
          simpa using this
        have h1 := hall i hlt
        rw [getD_both hun] at h1
        cases h1
    | succ f ih =>
      intro listed a' w' hu hsz hI
      obtain ⟨i0, hi0, hf0, hlow⟩ := unl_pos listed l.length (by omega)
      have hu0 : listed.getD i0 true = false := getD_in (by omega) hf0
      refine ⟨fun hnil => ?_, fun i hi => ?_⟩
      · exfalso
        obtain ⟨o, ho, hon⟩ := hgo i0 hi0
        have : i0 ∈ Region.ready .any l.toArray listed := mem_ready.2 ⟨hu0, o, by simpa using ho, fun e he hb => hlow _ (hon e he hb)⟩
        rw [hnil] at this
        cases this
      · obtain ⟨hun, o, ho, hdep⟩ := mem_ready.1 hi
        have hin : i < l.length := by
          have := (Array.getElem?_eq_some_iff.1 ho).1
          simpa using this
        have ho' : l[i]? = some o := by simpa using ho
        have hwaits : ∀ j, waits l i j = true → listed.getD j false = true := fun j hj => by
          unfold waits at hj
          rw [ho'] at hj
          simp only [Option.map_some, Option.getD_some] at hj
          obtain ⟨e, he, hb⟩ := Array.any_eq_true'.1 hj
          simp only [Bool.and_eq_true, beq_iff_eq] at hb
          have := hdep e he hb.1
          rw [hb.2] at this
          exact this
        unfold wpOp
        simp only [ho]
        rw [if_pos (hwant i o ho' (fun j => listed.getD j false) a' w' (getD_both hun) hwaits hI)]
        left
        refine Oper.wp_mono (fun a'' w'' h => ?_) (hstep i o ho' (fun j => listed.getD j false) a' w' (getD_both hun) (fun j hj => ?_) hI)
        · refine ih _ _ _ (by have := unl_set listed i (by omega) (getD_both hun) l.length hin; omega) (by simpa using hsz) ?_
          have e : (fun j => (listed.setIfInBounds i true).getD j false) = fun j => decide (j = i) || listed.getD j false := by
            funext j
            by_cases h : j = i
            · subst h
              rw [getD_set_same (by omega)]
              simp
            · rw [getD_set_ne false (Ne.symm h)]
              simp [h]
          rw [e]
          exact h
        · exact hwaits j hj
  refine wp_region_any hm ?_
  have hun : ∀ k, unl (Array.replicate l.toArray.size false) k = k := fun k => by
    induction k with
    | zero => rfl
    | succ k ih =>
      unfold unl
      rw [ih, getD_replicate_false]
      rfl
  have h0' : I (fun j => (Array.replicate l.toArray.size false).getD j false) a w.drew := by
    have e : (fun j => (Array.replicate l.toArray.size false).getD j false) = fun _ => false := funext fun j => getD_replicate_false _ _
    rw [e]
    exact h0
  have := key l.length (Array.replicate l.toArray.size false) a w.drew (hun _) (by simp) h0'
  rw [show l.toArray.size = l.length by simp] at this ⊢
  exact this

/-- The operations of a region that draws its order, each by what it answers; guarded ones, whose guards say yes. -/
theorem wp_specsG {P : Program} {id : Nat} {Q : Exit → Act → World → Prop} {a : Act} {w : World} {l : List Oper} (n : Nat) (Sp : Nat → Value → World → Prop) (R : (Nat → Bool) → Act → World → Prop) (hm : P.follows .mixedOrders = true) (hB : elderG l = true) (hD : dstsB l n a.tmps.size = true)
    (hR : R (fun _ => false) a w.drew)
    (hwant : ∀ i o, l[i]? = some o → ∀ (a' : Act) (w' : World), (∀ j, j < n → waits l i j = true → Sp j (a'.tmps.getD (slotOf l j) undef) w') → Region.wanted o (yielded l.toArray a'.tmps) = true)
    (hstep : ∀ i o, i < n → l[i]? = some o → ∀ (L : Nat → Bool) a' w', L i = false → (∀ j, waits l i j = true → L j = true) → R L a' w' → (∀ j, j < n → waits l i j = true → Sp j (a'.tmps.getD (slotOf l j) undef) w') → (∀ s, (∀ i, i < n → slotOf l i ≠ s) → a'.tmps.getD s undef = a.tmps.getD s undef) → a'.tmps.size = a.tmps.size →
      ∀ K : Act → World → Prop, (∀ v w'', Sp i v w'' → R (fun j => decide (j = i) || L j) (a'.put o.dst v) w'' → (∀ j u, Sp j u w' → Sp j u w'') → K (a'.put o.dst v) w'') → o.wp P a' w' K Q)
    (hput : ∀ i o, n ≤ i → l[i]? = some o → ∀ (L : Nat → Bool) a' w', L i = false → (∀ j, waits l i j = true → L j = true) → R L a' w' → (∀ j, j < n → waits l i j = true → Sp j (a'.tmps.getD (slotOf l j) undef) w') →
      ∀ K : Act → World → Prop, (∀ w'', R (fun j => decide (j = i) || L j) a' w'' → (∀ j u, Sp j u w' → Sp j u w'') → ∀ v, K (a'.put o.dst v) w'') → o.wp P a' w' K Q)
    (hend : ∀ (v : Nat → Value) (L : Nat → Bool) w', (∀ i, i < l.length → L i = true) → R L (putAll l a v n) w' → (∀ i, i < n → Sp i (v i) w') → Q .normal (putAll l a v n) w') :
    (Code.region id l.toArray true).wp P Q a w := by
  simp only [dstsB, Bool.and_eq_true, decide_eq_true_eq] at hD
  obtain ⟨⟨⟨hn, hd⟩, hne⟩, hno⟩ := hD
  have hdo : ∀ i, i < n → dstOf l i = some (slotOf l i) ∧ slotOf l i < a.tmps.size := fun i hi => by
    have := List.all_eq_true.1 hd i (List.mem_range.2 hi)
    unfold slotOf
    cases ho : dstOf l i with
    | none => rw [ho] at this; cases this
    | some d =>
      rw [ho] at this
      simp only [Option.map_some, Option.getD_some, decide_eq_true_eq] at this
      exact ⟨rfl, this⟩
  have hnd : ∀ i j, i < n → j < n → slotOf l i = slotOf l j → i = j := fun i j hi hj e => by
    have := List.all_eq_true.1 (List.all_eq_true.1 hne i (List.mem_range.2 hi)) j (List.mem_range.2 hj)
    simp only [Bool.or_eq_true, decide_eq_true_eq] at this
    rcases this with h | h
    · exact h
    · exact absurd (by rw [(hdo i hi).1, (hdo j hj).1, e]) h
  refine wp_invG (KnownB l n Sp a R) hm hB ⟨fun _ _ h => (by cases h), fun _ _ => rfl, rfl, rfl, hR⟩ (fun i o ho L a' w' _ hw K => hwant i o ho a' w' (fun j hj h => K.sp j hj (hw j h))) ?_ ?_
  · intro i o ho L a' w' hL hw K
    by_cases hi : i < n
    · refine hstep i o hi ho L a' w' hL hw K.world (fun j hj h => K.sp j hj (hw j h)) K.slot K.size _ (fun v w'' hv hRw hup => ?_)
      have hdst : o.dst = some (slotOf l i) := by
        have := (hdo i hi).1
        rw [dstOf, ho] at this
        simpa using this
      have hp : ∀ s, (a'.put o.dst v).tmps.getD s undef = if s = slotOf l i then v else a'.tmps.getD s undef := fun s => by
        rw [hdst]
        by_cases hsi : s = slotOf l i
        · subst hsi
          rw [if_pos rfl]
          have : slotOf l i < a'.tmps.size := by rw [K.size]; exact (hdo i hi).2
          simp [Act.put, this]
        · rw [if_neg hsi]
          simp [Act.put, Array.getElem?_setIfInBounds_ne (Ne.symm hsi)]
      refine ⟨fun j hj hlj => ?_, fun s hs => ?_, ?_, ?_, hRw⟩
      · rw [hp]
        by_cases e : j = i
        · subst e
          rw [if_pos rfl]
          exact hv
        · rw [if_neg (fun h => e (hnd j i hj hi h))]
          simp only [e, decide_false, Bool.false_or] at hlj
          exact hup _ _ (K.sp j hj hlj)
      · rw [hp, if_neg (fun h => hs i hi h.symm)]
        exact K.slot s hs
      · rw [put_defers]
        exact K.defers
      · rw [put_size]
        exact K.size
    · refine hput i o (Nat.le_of_not_lt hi) ho L a' w' hL hw K.world (fun j hj h => K.sp j hj (hw j h)) _ (fun w'' hRw hup v => ?_)
      have hdst : o.dst = none := by
        have hil : i < l.length := (List.getElem?_eq_some_iff.1 ho).1
        have := List.all_eq_true.1 hno i (List.mem_range.2 hil)
        simp only [hi, decide_false, Bool.false_or, dstOf, ho, Option.bind_some, Option.isNone_iff_eq_none] at this
        exact this
      rw [hdst]
      have e0 : a'.put none v = a' := rfl
      rw [e0]
      refine ⟨fun j hj hlj => ?_, K.slot, K.defers, K.size, hRw⟩
      have e : j ≠ i := fun h => hi (h ▸ hj)
      simp only [e, decide_false, Bool.false_or] at hlj
      exact hup _ _ (K.sp j hj hlj)
  · intro L a' w' hall K
    have e : a' = putAll l a (fun i => a'.tmps.getD (slotOf l i) undef) n := by
      refine act_ext (by rw [K.size, putAll_size]) (fun s => ?_) (by rw [K.defers, putAll_defers])
      by_cases hx : ∃ i, i < n ∧ slotOf l i = s
      · obtain ⟨i, hi, rfl⟩ := hx
        rw [putAll_in l a _ i n hdo (fun j hj hji => fun h => hji (hnd j i hj hi h)) hi]
      · have hx' : ∀ i, i < n → slotOf l i ≠ s := fun i hi h => hx ⟨i, hi, h⟩
        rw [putAll_out l a _ s n (fun i hi => (hdo i hi).1) hx', K.slot s hx']
    have hRw' := K.world
    rw [e] at hRw'
    rw [e]
    exact hend _ L w' hall hRw' (fun i hi => K.sp i hi (hall i (by omega)))

theorem want_none {o : Oper} {y : Nat → Option Bool} (h : o.guard = none) : Region.wanted o y = true := by
  unfold Region.wanted
  rw [h]
theorem want_some {o : Oper} {l : List Oper} {t : Array Value} {j k : Nat} {b : Bool} (h : o.guard = some (j, b)) (hk : dstOf l j = some k) (hv : t.getD k undef = .bool b) : Region.wanted o (yielded l.toArray t) = true := by
  have hs : t[k]? = some (.bool b) := by
    cases he : t[k]? with
    | none =>
      rw [Array.getD_eq_getD_getElem?, he] at hv
      cases hv
    | some v =>
      rw [Array.getD_eq_getD_getElem?, he] at hv
      exact congrArg some hv
  have hd : ((l.toArray[j]?).bind (·.dst)) = some k := by
    unfold dstOf at hk
    simpa using hk
  unfold Region.wanted
  rw [h]
  simp only [yielded, hd, Option.bind_some, hs, beq_self_eq_true]
end Go.Proofs.Ythmmplmppchfmaa

namespace Go.Proofs.Ythmmplmppchfmaa
open Go.RowKit Go.Sort

theorem wp_invH {P : Program} {id : Nat} {Q : Exit → Act → World → Prop} {a : Act} {w : World} {l : List Oper} (I : (Nat → Bool) → Act → World → Prop) (hm : P.follows .mixedOrders = true) (hB : elderG l = true)
    (h0 : I (fun _ => false) a w.drew)
    (hstep : ∀ i o, l[i]? = some o → ∀ (L : Nat → Bool) a' w', L i = false → (∀ j, waits l i j = true → L j = true) → I L a' w' → if Region.wanted o (yielded l.toArray a'.tmps) = true then o.wp P a' w' (fun a'' w'' => I (fun j => decide (j = i) || L j) a'' w'') Q else I (fun j => decide (j = i) || L j) (a'.put o.dst undef) w')
    (hend : ∀ (L : Nat → Bool) a' w', (∀ i, i < l.length → L i = true) → I L a' w' → Q .normal a' w') :
    (Code.region id l.toArray true).wp P Q a w := by
  have hgo : ∀ i, i < l.length → ∃ o, l[i]? = some o ∧ ∀ e ∈ o.after, Region.binds .any e = true → e.on < i := fun i hi => by
    have := List.all_eq_true.1 hB i (List.mem_range.2 hi)
    cases ho : l[i]? with
    | none => rw [ho] at this; cases this
    | some o =>
      rw [ho] at this
      simp only [Option.map_some, Option.getD_some, Array.all_eq_true_iff_forall_mem, Bool.or_eq_true, Bool.not_eq_true', decide_eq_true_eq] at this
      refine ⟨o, rfl, fun e he hb => ?_⟩
      rcases this e he with h | h
      · rw [hb] at h; cases h
      · exact h
  have key : ∀ (f : Nat) (listed : Array Bool) (a' : Act) (w' : World), unl listed l.length = f → listed.size = l.length → I (fun j => listed.getD j false) a' w' → wpAny P .any l.toArray Q f listed a' w' := by
    intro f
    induction f with
    | zero =>
      intro listed a' w' hu hsz hI
      have hall := unl_zero listed l.length hu
      refine ⟨?_, hend _ a' w' hall hI⟩
      cases hr : Region.ready .any l.toArray listed with
      | nil => rfl
      | cons i t =>
        have hi : i ∈ Region.ready .any l.toArray listed := by rw [hr]; exact List.mem_cons_self
        obtain ⟨hun, o, ho, _⟩ := mem_ready.1 hi
        have hlt : i < l.length := by
          have := (Array.getElem?_eq_some_iff.1 ho).1
          simpa using this
        have h1 := hall i hlt
        rw [getD_both hun] at h1
        cases h1
    | succ f ih =>
      intro listed a' w' hu hsz hI
      obtain ⟨i0, hi0, hf0, hlow⟩ := unl_pos listed l.length (by omega)
      have hu0 : listed.getD i0 true = false := getD_in (by omega) hf0
      refine ⟨fun hnil => ?_, fun i hi => ?_⟩
      · exfalso
        obtain ⟨o, ho, hon⟩ := hgo i0 hi0
        have : i0 ∈ Region.ready .any l.toArray listed := mem_ready.2 ⟨hu0, o, by simpa using ho, fun e he hb => hlow _ (hon e he hb)⟩
        rw [hnil] at this
        cases this
      · obtain ⟨hun, o, ho, hdep⟩ := mem_ready.1 hi
        have hin : i < l.length := by
          have := (Array.getElem?_eq_some_iff.1 ho).1
          simpa using this
        have ho' : l[i]? = some o := by simpa using ho
        have hwaits : ∀ j, waits l i j = true → listed.getD j false = true := fun j hj => by
          unfold waits at hj
          rw [ho'] at hj
          simp only [Option.map_some, Option.getD_some] at hj
          obtain ⟨e, he, hb⟩ := Array.any_eq_true'.1 hj
          simp only [Bool.and_eq_true, beq_iff_eq] at hb
          have := hdep e he hb.1
          rw [hb.2] at this
          exact this
        have hst := hstep i o ho' (fun j => listed.getD j false) a' w' (getD_both hun) (fun j hj => hwaits j hj) hI
        have hnext : ∀ a'' w'', I (fun j => decide (j = i) || listed.getD j false) a'' w'' → wpAny P .any l.toArray Q f (listed.setIfInBounds i true) a'' w'' := fun a'' w'' h => by
          refine ih _ _ _ (by have := unl_set listed i (by omega) (getD_both hun) l.length hin; omega) (by simpa using hsz) ?_
          have e : (fun j => (listed.setIfInBounds i true).getD j false) = fun j => decide (j = i) || listed.getD j false := by
            funext j
            by_cases h : j = i
            · subst h
              rw [getD_set_same (by omega)]
              simp
            · rw [getD_set_ne false (Ne.symm h)]
              simp [h]
          rw [e]
          exact h
        unfold wpOp
        simp only [ho]
        by_cases hwt : Region.wanted o (yielded l.toArray a'.tmps) = true
        · rw [if_pos hwt] at hst ⊢
          left
          exact Oper.wp_mono (fun a'' w'' h => hnext a'' w'' h) hst
        · rw [if_neg hwt] at hst ⊢
          exact hnext _ _ hst
  refine wp_region_any hm ?_
  have hun : ∀ k, unl (Array.replicate l.toArray.size false) k = k := fun k => by
    induction k with
    | zero => rfl
    | succ k ih =>
      unfold unl
      rw [ih, getD_replicate_false]
      rfl
  have h0' : I (fun j => (Array.replicate l.toArray.size false).getD j false) a w.drew := by
    have e : (fun j => (Array.replicate l.toArray.size false).getD j false) = fun _ => false := funext fun j => getD_replicate_false _ _
    rw [e]
    exact h0
  have := key l.length (Array.replicate l.toArray.size false) a w.drew (hun _) (by simp) h0'
  rw [show l.toArray.size = l.length by simp] at this ⊢
  exact this

/-- The operations of a region that draws its order, each by what it answers; guarded ones: W tells which are wanted. -/
theorem wp_specsH {P : Program} {id : Nat} {Q : Exit → Act → World → Prop} {a : Act} {w : World} {l : List Oper} (n : Nat) (W : Nat → Bool) (Sp : Nat → Value → World → Prop) (R : (Nat → Bool) → Act → World → Prop) (hm : P.follows .mixedOrders = true) (hB : elderG l = true) (hD : dstsB l n a.tmps.size = true)
    (hR : R (fun _ => false) a w.drew)
    (hwant : ∀ i o, l[i]? = some o → ∀ (a' : Act) (w' : World), (∀ j, j < n → waits l i j = true → Sp j (a'.tmps.getD (slotOf l j) undef) w') → Region.wanted o (yielded l.toArray a'.tmps) = W i)
    (hskip : ∀ i o, i < n → l[i]? = some o → W i = false → ∀ (L : Nat → Bool) a' w', L i = false → R L a' w' → Sp i undef w' ∧ R (fun j => decide (j = i) || L j) (a'.put o.dst undef) w')
    (hW : ∀ i, n ≤ i → W i = true)
    (hstep : ∀ i o, i < n → W i = true → l[i]? = some o → ∀ (L : Nat → Bool) a' w', L i = false → (∀ j, waits l i j = true → L j = true) → R L a' w' → (∀ j, j < n → waits l i j = true → Sp j (a'.tmps.getD (slotOf l j) undef) w') → (∀ s, (∀ i, i < n → slotOf l i ≠ s) → a'.tmps.getD s undef = a.tmps.getD s undef) → a'.tmps.size = a.tmps.size →
      ∀ K : Act → World → Prop, (∀ v w'', Sp i v w'' → R (fun j => decide (j = i) || L j) (a'.put o.dst v) w'' → (∀ j u, Sp j u w' → Sp j u w'') → K (a'.put o.dst v) w'') → o.wp P a' w' K Q)
    (hput : ∀ i o, n ≤ i → l[i]? = some o → ∀ (L : Nat → Bool) a' w', L i = false → (∀ j, waits l i j = true → L j = true) → R L a' w' → (∀ j, j < n → waits l i j = true → Sp j (a'.tmps.getD (slotOf l j) undef) w') → (∀ s, (∀ i, i < n → slotOf l i ≠ s) → a'.tmps.getD s undef = a.tmps.getD s undef) →
      ∀ K : Act → World → Prop, (∀ w'', R (fun j => decide (j = i) || L j) a' w'' → (∀ j u, Sp j u w' → Sp j u w'') → ∀ v, K (a'.put o.dst v) w'') → o.wp P a' w' K Q)
    (hend : ∀ (v : Nat → Value) (L : Nat → Bool) w', (∀ i, i < l.length → L i = true) → R L (putAll l a v n) w' → (∀ i, i < n → Sp i (v i) w') → Q .normal (putAll l a v n) w') :
    (Code.region id l.toArray true).wp P Q a w := by
  simp only [dstsB, Bool.and_eq_true, decide_eq_true_eq] at hD
  obtain ⟨⟨⟨hn, hd⟩, hne⟩, hno⟩ := hD
  have hdo : ∀ i, i < n → dstOf l i = some (slotOf l i) ∧ slotOf l i < a.tmps.size := fun i hi => by
    have := List.all_eq_true.1 hd i (List.mem_range.2 hi)
    unfold slotOf
    cases ho : dstOf l i with
    | none => rw [ho] at this; cases this
    | some d =>
      rw [ho] at this
      simp only [Option.map_some, Option.getD_some, decide_eq_true_eq] at this
      exact ⟨rfl, this⟩
  have hnd : ∀ i j, i < n → j < n → slotOf l i = slotOf l j → i = j := fun i j hi hj e => by
    have := List.all_eq_true.1 (List.all_eq_true.1 hne i (List.mem_range.2 hi)) j (List.mem_range.2 hj)
    simp only [Bool.or_eq_true, decide_eq_true_eq] at this
    rcases this with h | h
    · exact h
    · exact absurd (by rw [(hdo i hi).1, (hdo j hj).1, e]) h
  refine wp_invH (KnownB l n Sp a R) hm hB ⟨fun _ _ h => (by cases h), fun _ _ => rfl, rfl, rfl, hR⟩ ?_ ?_
  · intro i o ho L a' w' hL hw K
    rw [hwant i o ho a' w' (fun j hj h => K.sp j hj (hw j h))]
    by_cases hwi : W i = true
    case neg =>
      rw [if_neg hwi]
      have hi : i < n := Nat.lt_of_not_le fun h => hwi (hW i h)
      obtain ⟨hs, hr⟩ := hskip i o hi ho (by simpa using hwi) L a' w' hL K.world
      have hdst : o.dst = some (slotOf l i) := by
        have := (hdo i hi).1
        rw [dstOf, ho] at this
        simpa using this
      have hp : ∀ s, (a'.put o.dst undef).tmps.getD s undef = if s = slotOf l i then undef else a'.tmps.getD s undef := fun s => by
        rw [hdst]
        by_cases hsi : s = slotOf l i
        · subst hsi
          rw [if_pos rfl]
          have : slotOf l i < a'.tmps.size := by rw [K.size]; exact (hdo i hi).2
          simp [Act.put, this]
        · rw [if_neg hsi]
          simp [Act.put, Array.getElem?_setIfInBounds_ne (Ne.symm hsi)]
      refine ⟨fun j hj hlj => ?_, fun s hs => ?_, ?_, ?_, hr⟩
      · rw [hp]
        by_cases e : j = i
        · subst e
          rw [if_pos rfl]
          exact hs
        · rw [if_neg (fun h => e (hnd j i hj hi h))]
          simp only [e, decide_false, Bool.false_or] at hlj
          exact K.sp j hj hlj
      · rw [hp, if_neg (fun h => hs i hi h.symm)]
        exact K.slot s hs
      · rw [put_defers]
        exact K.defers
      · rw [put_size]
        exact K.size
    rw [if_pos hwi]
    by_cases hi : i < n
    · refine hstep i o hi hwi ho L a' w' hL hw K.world (fun j hj h => K.sp j hj (hw j h)) K.slot K.size _ (fun v w'' hv hRw hup => ?_)
      have hdst : o.dst = some (slotOf l i) := by
        have := (hdo i hi).1
        rw [dstOf, ho] at this
        simpa using this
      have hp : ∀ s, (a'.put o.dst v).tmps.getD s undef = if s = slotOf l i then v else a'.tmps.getD s undef := fun s => by
        rw [hdst]
        by_cases hsi : s = slotOf l i
        · subst hsi
          rw [if_pos rfl]
          have : slotOf l i < a'.tmps.size := by rw [K.size]; exact (hdo i hi).2
          simp [Act.put, this]
        · rw [if_neg hsi]
          simp [Act.put, Array.getElem?_setIfInBounds_ne (Ne.symm hsi)]
      refine ⟨fun j hj hlj => ?_, fun s hs => ?_, ?_, ?_, hRw⟩
      · rw [hp]
        by_cases e : j = i
        · subst e
          rw [if_pos rfl]
          exact hv
        · rw [if_neg (fun h => e (hnd j i hj hi h))]
          simp only [e, decide_false, Bool.false_or] at hlj
          exact hup _ _ (K.sp j hj hlj)
      · rw [hp, if_neg (fun h => hs i hi h.symm)]
        exact K.slot s hs
      · rw [put_defers]
        exact K.defers
      · rw [put_size]
        exact K.size
    · refine hput i o (Nat.le_of_not_lt hi) ho L a' w' hL hw K.world (fun j hj h => K.sp j hj (hw j h)) K.slot _ (fun w'' hRw hup v => ?_)
      have hdst : o.dst = none := by
        have hil : i < l.length := (List.getElem?_eq_some_iff.1 ho).1
        have := List.all_eq_true.1 hno i (List.mem_range.2 hil)
        simp only [hi, decide_false, Bool.false_or, dstOf, ho, Option.bind_some, Option.isNone_iff_eq_none] at this
        exact this
      rw [hdst]
      have e0 : a'.put none v = a' := rfl
      rw [e0]
      refine ⟨fun j hj hlj => ?_, K.slot, K.defers, K.size, hRw⟩
      have e : j ≠ i := fun h => hi (h ▸ hj)
      simp only [e, decide_false, Bool.false_or] at hlj
      exact hup _ _ (K.sp j hj hlj)
  · intro L a' w' hall K
    have e : a' = putAll l a (fun i => a'.tmps.getD (slotOf l i) undef) n := by
      refine act_ext (by rw [K.size, putAll_size]) (fun s => ?_) (by rw [K.defers, putAll_defers])
      by_cases hx : ∃ i, i < n ∧ slotOf l i = s
      · obtain ⟨i, hi, rfl⟩ := hx
        rw [putAll_in l a _ i n hdo (fun j hj hji => fun h => hji (hnd j i hj hi h)) hi]
      · have hx' : ∀ i, i < n → slotOf l i ≠ s := fun i hi h => hx ⟨i, hi, h⟩
        rw [putAll_out l a _ s n (fun i hi => (hdo i hi).1) hx', K.slot s hx']
    have hRw' := K.world
    rw [e] at hRw'
    rw [e]
    exact hend _ L w' hall hRw' (fun i hi => K.sp i hi (hall i (by omega)))

theorem want_no {o : Oper} {l : List Oper} {t : Array Value} {j k : Nat} {b c : Bool} (h : o.guard = some (j, b)) (hk : dstOf l j = some k) (hv : t.getD k undef = .bool c) (hc : c ≠ b) : Region.wanted o (yielded l.toArray t) = false := by
  have hs : t[k]? = some (.bool c) := by
    cases he : t[k]? with
    | none =>
      rw [Array.getD_eq_getD_getElem?, he] at hv
      cases hv
    | some v =>
      rw [Array.getD_eq_getD_getElem?, he] at hv
      exact congrArg some hv
  have hd : ((l.toArray[j]?).bind (·.dst)) = some k := by
    unfold dstOf at hk
    simpa using hk
  unfold Region.wanted
  rw [h]
  simp only [yielded, hd, Option.bind_some, hs]
  cases b <;> cases c <;> simp_all
end Go.Proofs.Ythmmplmppchfmaa
