/-
  A region that draws its order: each operation of its front yields what it should, whatever else was done ahead of it; its tail is forced. The walk's law, by what each slot holds.
-/
import Derived.Test.YthmmplmppchfmaaVcK
namespace Go.Proofs.Ythmmplmppchfmaa
open Go.RowKit Go.Sort

/-- How many of the first k are not done. -/
def unl (listed : Array Bool) : Nat → Nat
  | 0 => 0
  | k + 1 => unl listed k + (if listed.getD k false = true then 0 else 1)

theorem unl_set_ge (listed : Array Bool) (i : Nat) : ∀ k, k ≤ i → unl (listed.setIfInBounds i true) k = unl listed k
  | 0, _ => rfl
  | k + 1, h => by
    unfold unl
    rw [unl_set_ge listed i k (by omega), getD_set_ne false (by omega)]

theorem getD_set_same {listed : Array Bool} {i : Nat} (h : i < listed.size) : (listed.setIfInBounds i true).getD i false = true := by simp [h]

theorem unl_set (listed : Array Bool) (i : Nat) (hi : i < listed.size) (hf : listed.getD i false = false) : ∀ k, i < k → unl (listed.setIfInBounds i true) k + 1 = unl listed k
  | 0, h => absurd h (Nat.not_lt_zero _)
  | k + 1, h => by
    unfold unl
    by_cases e : i = k
    · subst e
      rw [unl_set_ge listed i i (Nat.le_refl _), getD_set_same hi, hf]
      simp
    · have ih := unl_set listed i hi hf k (by omega)
      rw [getD_set_ne false e]
      omega

theorem unl_zero (listed : Array Bool) : ∀ k, unl listed k = 0 → ∀ i, i < k → listed.getD i false = true
  | 0, _, i, hi => absurd hi (Nat.not_lt_zero _)
  | k + 1, h, i, hi => by
    unfold unl at h
    by_cases e : i = k
    · subst e
      cases hb : listed.getD i false
      · rw [hb] at h
        simp at h
      · rfl
    · exact unl_zero listed k (by omega) i (by omega)

theorem unl_pos (listed : Array Bool) : ∀ k, 0 < unl listed k → ∃ i, i < k ∧ listed.getD i false = false ∧ ∀ j, j < i → listed.getD j false = true
  | 0, h => absurd h (Nat.lt_irrefl _)
  | k + 1, h => by
    by_cases h0 : 0 < unl listed k
    · obtain ⟨i, h1, h2, h3⟩ := unl_pos listed k h0
      exact ⟨i, by omega, h2, h3⟩
    · refine ⟨k, by omega, ?_, unl_zero listed k (by omega)⟩
      unfold unl at h
      cases hb : listed.getD k false
      · rfl
      · rw [hb] at h
        simp at h
        omega

/-- The slot that an operation writes. -/
def dstOf (l : List Oper) (i : Nat) : Option Tmp := (l[i]?).bind (·.dst)
def slotOf (l : List Oper) (i : Nat) : Nat := (dstOf l i).getD 0
def waits (l : List Oper) (i j : Nat) : Bool := ((l[i]?).map fun o => o.after.any fun e => Region.binds .any e && e.on == j).getD false

/-- What can be told by looking: the front's operations are not guarded, write slots of their own, wait for elder ones alone; the tail waits for all of them, and is forced. -/
def frontB (l : List Oper) (n size : Nat) : Bool :=
  decide (n < l.length) && Region.sinkB .any l.toArray n && Region.chainB .any l.toArray n &&
  ((List.range n).all fun i => ((l[i]?).map fun o => o.guard.isNone && o.after.all fun e => decide (e.on < i)).getD false) &&
  ((List.range n).all fun i => ((dstOf l i).map fun d => decide (d < size)).getD false) &&
  ((List.range n).all fun i => (List.range n).all fun j => decide (i = j) || decide (dstOf l i ≠ dstOf l j)) &&
  Region.seqB .any l.toArray (l.length - n) n (List.replicate n true ++ List.replicate (l.length - n) false).toArray

structure Known (l : List Oper) (n : Nat) (Sp : Nat → Value → World → Prop) (a : Act) (R : World → Prop) (listed : Array Bool) (a' : Act) (w' : World) : Prop where
  inv : HeadInv .any l.toArray n listed
  sp : ∀ i, i < n → listed.getD i false = true → Sp i (a'.tmps.getD (slotOf l i) undef) w'
  slot : ∀ s, (∀ i, i < n → slotOf l i ≠ s) → a'.tmps.getD s undef = a.tmps.getD s undef
  defers : a'.defers = a.defers
  size : a'.tmps.size = a.tmps.size
  world : R w'

theorem wp_specs {P : Program} {id : Nat} {Q : Exit → Act → World → Prop} {a : Act} {w : World} {l : List Oper} (n : Nat) (Sp : Nat → Value → World → Prop) (R : World → Prop) (hm : P.follows .mixedOrders = true) (hB : frontB l n a.tmps.size = true)
    (hR : R w.drew)
    (hstep : ∀ i o, i < n → l[i]? = some o → ∀ a' w', R w' → (∀ j, waits l i j = true → Sp j (a'.tmps.getD (slotOf l j) undef) w') → (∀ s, (∀ i, i < n → slotOf l i ≠ s) → a'.tmps.getD s undef = a.tmps.getD s undef) →
      ∀ K : Act → World → Prop, (∀ v w'', Sp i v w'' → R w'' → (∀ j u, Sp j u w' → Sp j u w'') → K (a'.put o.dst v) w'') → o.wp P a' w' K Q)
    (hend : ∀ a' w', R w' → (∀ i, i < n → Sp i (a'.tmps.getD (slotOf l i) undef) w') → (∀ s, (∀ i, i < n → slotOf l i ≠ s) → a'.tmps.getD s undef = a.tmps.getD s undef) → a'.defers = a.defers → a'.tmps.size = a.tmps.size → wpList P l.toArray Q (l.drop n) a' w') :
    (Code.region id l.toArray true).wp P Q a w := by
  simp only [frontB, Bool.and_eq_true, decide_eq_true_eq] at hB
  obtain ⟨⟨⟨⟨⟨⟨hn, hs⟩, hc⟩, hg⟩, hd⟩, hne⟩, hseq⟩ := hB
  have hn' : n < l.toArray.size := by simpa using hn
  have hgo : ∀ i, i < n → ∃ o, l[i]? = some o ∧ o.guard = none ∧ ∀ e ∈ o.after, e.on < i := fun i hi => by
    have := List.all_eq_true.1 hg i (List.mem_range.2 hi)
    cases ho : l[i]? with
    | none => rw [ho] at this; cases this
    | some o =>
      rw [ho] at this
      simp only [Option.map_some, Option.getD_some, Bool.and_eq_true, Option.isNone_iff_eq_none, Array.all_eq_true_iff_forall_mem, decide_eq_true_eq] at this
      exact ⟨o, rfl, this.1, fun e he => this.2 e he⟩
  have hdo : ∀ i, i < n → dstOf l i = some (slotOf l i) ∧ slotOf l i < a.tmps.size := fun i hi => by
    have := List.all_eq_true.1 hd i (List.mem_range.2 hi)
    unfold slotOf
    cases ho : dstOf l i with
    | none => rw [ho] at this; cases this
    | some d =>
      rw [ho] at this
      simp only [Option.map_some, Option.getD_some, decide_eq_true_eq] at this
      exact ⟨rfl, this⟩
  have hnd : ∀ i j, i < n → j < n → slotOf l i = slotOf l j → i = j := fun i j hi hj e => by
    have := List.all_eq_true.1 (List.all_eq_true.1 hne i (List.mem_range.2 hi)) j (List.mem_range.2 hj)
    simp only [Bool.or_eq_true, decide_eq_true_eq] at this
    rcases this with h | h
    · exact h
    · exact absurd (by rw [(hdo i hi).1, (hdo j hj).1, e]) h
  have key : ∀ (f : Nat) (listed : Array Bool) (a' : Act) (w' : World), unl listed n = f → Known l n Sp a R listed a' w' → wpAny P .any l.toArray Q (f + (l.length - n)) listed a' w' := by
    intro f
    induction f with
    | zero =>
      intro listed a' w' hu K
      have hall := unl_zero listed n hu
      have hl : listed = (List.replicate n true ++ List.replicate (l.length - n) false).toArray := by
        have hsz : listed.size = l.length := by rw [K.inv.size]; simp
        apply Array.ext
        · simp [hsz]
          omega
        · intro i h1 h2
          by_cases hi : i < n
          · have := hall i hi
            simp [h1] at this
            rw [this]
            simp [hi]
          · have := K.inv.tail i (by omega) (by simp; omega)
            simp [h1] at this
            rw [this]
            simp [List.getElem_append, hi]
      rw [Nat.zero_add, hl]
      have hdl : (l.drop n).length = l.length - n := by simp
      rw [← hdl]
      refine wpAny_of_seq (l.drop n) n _ a' w' (fun j => by simp [List.getElem?_drop]) (by rw [hdl]; exact hseq) ?_
      exact hend a' w' K.world (fun i hi => K.sp i hi (hall i hi)) K.slot K.defers K.size
    | succ f ih =>
      intro listed a' w' hu K
      have hsz : listed.size = l.length := by rw [K.inv.size]; simp
      obtain ⟨i0, hi0, hf0, hlow⟩ := unl_pos listed n (by omega)
      have hu0 : listed.getD i0 true = false := getD_in (by omega) hf0
      rw [show f + 1 + (l.length - n) = (f + (l.length - n)) + 1 by omega]
      refine ⟨fun hnil => ?_, fun i hi => ?_⟩
      · exfalso
        obtain ⟨o, ho, _, hon⟩ := hgo i0 hi0
        have : i0 ∈ Region.ready .any l.toArray listed := mem_ready.2 ⟨hu0, o, by simpa using ho, fun e he _ => hlow _ (hon e he)⟩
        rw [hnil] at this
        cases this
      · obtain ⟨hun, o, ho, hdep⟩ := mem_ready.1 hi
        have hin : i < n := by
          rcases Nat.lt_or_ge i n with h | h
          · exact h
          · exact absurd hi (tail_waits hs hc hn' K.inv _ i0 rfl hi0 hu0 i h)
        have ho' : l[i]? = some o := by simpa using ho
        obtain ⟨o2, ho2, hgd, hon⟩ := hgo i hin
        obtain rfl : o2 = o := Option.some.inj (ho2.symm.trans ho')
        have hdst : o2.dst = some (slotOf l i) := by
          have := (hdo i hin).1
          rw [dstOf, ho'] at this
          simpa using this
        unfold wpOp
        simp only [ho]
        rw [if_pos (by simp [Region.wanted, hgd])]
        left
        refine hstep i o2 hin ho' a' w' K.world (fun j hj => ?_) K.slot _ (fun v w'' hv hRw hup => ?_)
        rotate_left
        · have hput : ∀ s, (a'.put o2.dst v).tmps.getD s undef = if s = slotOf l i then v else a'.tmps.getD s undef := fun s => by
            rw [hdst]
            by_cases hsi : s = slotOf l i
            · subst hsi
              rw [if_pos rfl]
              have : slotOf l i < a'.tmps.size := by rw [K.size]; exact (hdo i hin).2
              simp [Act.put, this]
            · rw [if_neg hsi]
              simp [Act.put, Array.getElem?_setIfInBounds_ne (Ne.symm hsi)]
          refine ih _ _ _ (by have := unl_set listed i (by omega) (getD_both hun) n hin; omega) ⟨K.inv.set hi hin, fun j hj hlj => ?_, fun s hs' => ?_, ?_, ?_, hRw⟩
          · rw [hput]
            by_cases e : j = i
            · subst e
              rw [if_pos rfl]
              exact hv
            · rw [if_neg (fun h => e (hnd j i hj hin h))]
              rw [getD_set_ne false (Ne.symm e)] at hlj
              exact hup j _ (K.sp j hj hlj)
          · rw [hput, if_neg (fun h => hs' i hin h.symm)]
            exact K.slot s hs'
          · rw [hdst]
            exact K.defers
          · rw [hdst]
            simp [Act.put, K.size]
        · have hj' : ∃ e ∈ o2.after, Region.binds .any e = true ∧ e.on = j := by
            unfold waits at hj
            rw [ho'] at hj
            simp only [Option.map_some, Option.getD_some] at hj
            obtain ⟨e, he, hb⟩ := Array.any_eq_true'.1 hj
            simp only [Bool.and_eq_true, beq_iff_eq] at hb
            exact ⟨e, he, hb.1, hb.2⟩
          obtain ⟨e, he, hb, rfl⟩ := hj'
          exact K.sp _ (by have := hon e he; omega) (hdep e he hb)
  refine wp_region_any hm ?_
  have inv0 : HeadInv .any l.toArray n (Array.replicate l.toArray.size false) :=
    ⟨by simp, fun j oj _ hl => (by rw [getD_replicate_false] at hl; cases hl), fun t _ ht => getD_in (by simpa using ht) (getD_replicate_false _ _)⟩
  have hun : ∀ k, unl (Array.replicate l.toArray.size false) k = k := fun k => by
    induction k with
    | zero => rfl
    | succ k ih =>
      unfold unl
      rw [ih, getD_replicate_false]
      rfl
  have := key n (Array.replicate l.toArray.size false) a w.drew (hun n) ⟨inv0, fun i _ hl => (by rw [getD_replicate_false] at hl; cases hl), fun _ _ => rfl, rfl, rfl, hR⟩
  rw [show n + (l.length - n) = l.toArray.size by simp; omega] at this
  exact this

/-- The slots of the first k, written. -/
def putAll (l : List Oper) (a : Act) (v : Nat → Value) : Nat → Act
  | 0 => a
  | k + 1 => (putAll l a v k).put (dstOf l k) (v k)

theorem put_size (a : Act) (d : Option Tmp) (v : Value) : (a.put d v).tmps.size = a.tmps.size := by
  cases d <;> simp [Act.put]
theorem put_defers (a : Act) (d : Option Tmp) (v : Value) : (a.put d v).defers = a.defers := by
  cases d <;> rfl
theorem put_same (a : Act) (d : Nat) (v : Value) (h : d < a.tmps.size) : (a.put (some d) v).tmps.getD d undef = v := by simp [Act.put, h]
theorem put_other (a : Act) (d s : Nat) (v : Value) (h : d ≠ s) : (a.put (some d) v).tmps.getD s undef = a.tmps.getD s undef := by
  simp [Act.put, Array.getElem?_setIfInBounds_ne h]

theorem putAll_size (l : List Oper) (a : Act) (v : Nat → Value) : ∀ k, (putAll l a v k).tmps.size = a.tmps.size
  | 0 => rfl
  | k + 1 => by rw [putAll, put_size, putAll_size l a v k]
theorem putAll_defers (l : List Oper) (a : Act) (v : Nat → Value) : ∀ k, (putAll l a v k).defers = a.defers
  | 0 => rfl
  | k + 1 => by rw [putAll, put_defers, putAll_defers l a v k]
theorem putAll_out (l : List Oper) (a : Act) (v : Nat → Value) (s : Nat) : ∀ k, (∀ i, i < k → dstOf l i = some (slotOf l i)) → (∀ i, i < k → slotOf l i ≠ s) → (putAll l a v k).tmps.getD s undef = a.tmps.getD s undef
  | 0, _, _ => rfl
  | k + 1, h1, h2 => by
    rw [putAll, h1 k (by omega), put_other _ _ _ _ (h2 k (by omega))]
    exact putAll_out l a v s k (fun i hi => h1 i (by omega)) (fun i hi => h2 i (by omega))
theorem putAll_in (l : List Oper) (a : Act) (v : Nat → Value) (j : Nat) : ∀ k, (∀ i, i < k → dstOf l i = some (slotOf l i) ∧ slotOf l i < a.tmps.size) → (∀ i, i < k → i ≠ j → slotOf l i ≠ slotOf l j) → j < k → (putAll l a v k).tmps.getD (slotOf l j) undef = v j
  | 0, _, _, hj => absurd hj (Nat.not_lt_zero _)
  | k + 1, h1, h2, hj => by
    rw [putAll, (h1 k (by omega)).1]
    by_cases e : k = j
    · subst e
      rw [put_same _ _ _ (by rw [putAll_size]; exact (h1 k (by omega)).2)]
    · rw [put_other _ _ _ _ (h2 k (by omega) e)]
      exact putAll_in l a v j k (fun i hi => h1 i (by omega)) (fun i hi => h2 i (by omega)) (by omega)

theorem act_ext {a b : Act} (hs : a.tmps.size = b.tmps.size) (h : ∀ s, a.tmps.getD s undef = b.tmps.getD s undef) (hd : a.defers = b.defers) : a = b := by
  obtain ⟨t, d⟩ := a
  obtain ⟨t', d'⟩ := b
  simp only at hs hd h
  subst hd
  congr 1
  refine Array.ext hs fun i h1 h2 => ?_
  have := h i
  simpa [h1, h2] using this

/-- The same, its end over the slots written one by one. -/
theorem wp_specs_put {P : Program} {id : Nat} {Q : Exit → Act → World → Prop} {a : Act} {w : World} {l : List Oper} (n : Nat) (Sp : Nat → Value → World → Prop) (R : World → Prop) (hm : P.follows .mixedOrders = true) (hB : frontB l n a.tmps.size = true)
    (hR : R w.drew)
    (hstep : ∀ i o, i < n → l[i]? = some o → ∀ a' w', R w' → (∀ j, waits l i j = true → Sp j (a'.tmps.getD (slotOf l j) undef) w') → (∀ s, (∀ i, i < n → slotOf l i ≠ s) → a'.tmps.getD s undef = a.tmps.getD s undef) →
      ∀ K : Act → World → Prop, (∀ v w'', Sp i v w'' → R w'' → (∀ j u, Sp j u w' → Sp j u w'') → K (a'.put o.dst v) w'') → o.wp P a' w' K Q)
    (hend : ∀ (v : Nat → Value) w', R w' → (∀ i, i < n → Sp i (v i) w') → wpList P l.toArray Q (l.drop n) (putAll l a v n) w') :
    (Code.region id l.toArray true).wp P Q a w := by
  refine wp_specs n Sp R hm hB hR hstep ?_
  intro a' w' hRw hall hslot hdef hsz
  simp only [frontB, Bool.and_eq_true, decide_eq_true_eq] at hB
  obtain ⟨⟨⟨⟨⟨⟨_, _⟩, _⟩, _⟩, hd⟩, hne⟩, _⟩ := hB
  have hdo : ∀ i, i < n → dstOf l i = some (slotOf l i) ∧ slotOf l i < a.tmps.size := fun i hi => by
    have := List.all_eq_true.1 hd i (List.mem_range.2 hi)
    unfold slotOf
    cases ho : dstOf l i with
    | none => rw [ho] at this; cases this
    | some d =>
      rw [ho] at this
      simp only [Option.map_some, Option.getD_some, decide_eq_true_eq] at this
      exact ⟨rfl, this⟩
  have hnd : ∀ i j, i < n → j < n → i ≠ j → slotOf l i ≠ slotOf l j := fun i j hi hj hij e => by
    have := List.all_eq_true.1 (List.all_eq_true.1 hne i (List.mem_range.2 hi)) j (List.mem_range.2 hj)
    simp only [Bool.or_eq_true, decide_eq_true_eq] at this
    rcases this with h | h
    · exact hij h
    · exact absurd (by rw [(hdo i hi).1, (hdo j hj).1, e]) h
  have e : a' = putAll l a (fun i => a'.tmps.getD (slotOf l i) undef) n := by
    refine act_ext (by rw [hsz, putAll_size]) (fun s => ?_) (by rw [hdef, putAll_defers])
    by_cases hx : ∃ i, i < n ∧ slotOf l i = s
    · obtain ⟨i, hi, rfl⟩ := hx
      rw [putAll_in l a _ i n hdo (fun j hj hji => hnd j i hj hi hji) hi]
    · have hx' : ∀ i, i < n → slotOf l i ≠ s := fun i hi h => hx ⟨i, hi, h⟩
      rw [putAll_out l a _ s n (fun i hi => (hdo i hi).1) hx', hslot s hx']
  rw [e]
  exact hend _ w' hRw hall
end Go.Proofs.Ythmmplmppchfmaa
