/-
  A region that draws its order, some of whose operations are guarded, where all guards say yes.
  chancellaw10.SchemaAsks: the walk.
-/
import Derived.Test.YtbcddjaecdoliaaVeM
import Derived.Test.YtbcddjaecdoliaaSjDK
import Derived.Test.YtbcddjaecdoliaaSiW
namespace Go.Proofs.Ytbcddjaecdoliaa
open Go.RowKit Go.Sort

/-- What can be told by looking: each waits for elder ones alone. -/
def elderG (l : List Oper) : Bool :=
  (List.range l.length).all fun i => ((l[i]?).map fun o => o.after.all fun e => !(Region.binds .any e) || decide (e.on < i)).getD false

theorem wp_invG {P : Program} {id : Nat} {Q : Exit → Act → World → Prop} {a : Act} {w : World} {l : List Oper} (I : (Nat → Bool) → Act → World → Prop) (hm : P.follows .mixedOrders = true) (hB : elderG l = true)
    (h0 : I (fun _ => false) a w.drew)
    (hwant : ∀ i o, l[i]? = some o → ∀ (L : Nat → Bool) a' w', L i = false → (∀ j, waits l i j = true → L j = true) → I L a' w' → Region.wanted o (yielded l.toArray a'.tmps) = true)
    (hstep : ∀ i o, l[i]? = some o → ∀ (L : Nat → Bool) a' w', L i = false → (∀ j, waits l i j = true → L j = true) → I L a' w' → o.wp P a' w' (fun a'' w'' => I (fun j => decide (j = i) || L j) a'' w'') Q)
    (hend : ∀ (L : Nat → Bool) a' w', (∀ i, i < l.length → L i = true) → I L a' w' → Q .normal a' w') :
    (Code.region id l.toArray true).wp P Q a w := by
  have hgo : ∀ i, i < l.length → ∃ o, l[i]? = some o ∧ ∀ e ∈ o.after, Region.binds .any e = true → e.on < i := fun i hi => by
    have := List.all_eq_true.1 hB i (List.mem_range.2 hi)
    cases ho : l[i]? with
    | none => rw [ho] at this; cases this
    | some o =>
      rw [ho] at this
      simp only [Option.map_some, Option.getD_some, Array.all_eq_true_iff_forall_mem, Bool.or_eq_true, Bool.not_eq_true', decide_eq_true_eq] at this
      refine ⟨o, rfl, fun e he hb => ?_⟩
      rcases this e he with h | h
      · rw [hb] at h; cases h
      · exact h
  have key : ∀ (f : Nat) (listed : Array Bool) (a' : Act) (w' : World), unl listed l.length = f → listed.size = l.length → I (fun j => listed.getD j false) a' w' → wpAny P .any l.toArray Q f listed a' w' := by
    intro f
    induction f with
    | zero =>
      intro listed a' w' hu hsz hI
      have hall := unl_zero listed l.length hu
      refine ⟨?_, hend _ a' w' hall hI⟩
      cases hr : Region.ready .any l.toArray listed with
      | nil => rfl
      | cons i t =>
        have hi : i ∈ Region.ready .any l.toArray listed := by rw [hr]; exact List.mem_cons_self
        obtain ⟨hun, o, ho, _⟩ := mem_ready.1 hi
        have hlt : i < l.length := by
          have := (Array.getElem?_eq_some_iff.1 ho).1
          simpa using this
        have h1 := hall i hlt
        rw [getD_both hun] at h1
        cases h1
    | succ f ih =>
      intro listed a' w' hu hsz hI
      obtain ⟨i0, hi0, hf0, hlow⟩ := unl_pos listed l.length (by omega)
      have hu0 : listed.getD i0 true = false := getD_in (by omega) hf0
      refine ⟨fun hnil => ?_, fun i hi => ?_⟩
      · exfalso
        obtain ⟨o, ho, hon⟩ := hgo i0 hi0
        have : i0 ∈ Region.ready .any l.toArray listed := mem_ready.2 ⟨hu0, o, by simpa using ho, fun e he hb => hlow _ (hon e he hb)⟩
        rw [hnil] at this
        cases this
      · obtain ⟨hun, o, ho, hdep⟩ := mem_ready.1 hi
        have hin : i < l.length := by
          have := (Array.getElem?_eq_some_iff.1 ho).1
          simpa using this
        have ho' : l[i]? = some o := by simpa using ho
        have hwaits : ∀ j, waits l i j = true → listed.getD j false = true := fun j hj => by
          unfold waits at hj
          rw [ho'] at hj
          simp only [Option.map_some, Option.getD_some] at hj
          obtain ⟨e, he, hb⟩ := Array.any_eq_true'.1 hj
          simp only [Bool.and_eq_true, beq_iff_eq] at hb
          have := hdep e he hb.1
          rw [hb.2] at this
          exact this
        unfold wpOp
        simp only [ho]
        rw [if_pos (hwant i o ho' (fun j => listed.getD j false) a' w' (getD_both hun) hwaits hI)]
        left
        refine Oper.wp_mono (fun a'' w'' h => ?_) (hstep i o ho' (fun j => listed.getD j false) a' w' (getD_both hun) (fun j hj => ?_) hI)
        · refine ih _ _ _ (by have := unl_set listed i (by omega) (getD_both hun) l.length hin; omega) (by simpa using hsz) ?_
          have e : (fun j => (listed.setIfInBounds i true).getD j false) = fun j => decide (j = i) || listed.getD j false := by
            funext j
            by_cases h : j = i
            · subst h
              rw [getD_set_same (by omega)]
              simp
            · rw [getD_set_ne false (Ne.symm h)]
              simp [h]
          rw [e]
          exact h
        · exact hwaits j hj
  refine wp_region_any hm ?_
  have hun : ∀ k, unl (Array.replicate l.toArray.size false) k = k := fun k => by
    induction k with
    | zero => rfl
    | succ k ih =>
      unfold unl
      rw [ih, getD_replicate_false]
      rfl
  have h0' : I (fun j => (Array.replicate l.toArray.size false).getD j false) a w.drew := by
    have e : (fun j => (Array.replicate l.toArray.size false).getD j false) = fun _ => false := funext fun j => getD_replicate_false _ _
    rw [e]
    exact h0
  have := key l.length (Array.replicate l.toArray.size false) a w.drew (hun _) (by simp) h0'
  rw [show l.toArray.size = l.length by simp] at this ⊢
  exact this

/-- The operations of a region that draws its order, each by what it answers; guarded ones, whose guards say yes. -/
theorem wp_specsG {P : Program} {id : Nat} {Q : Exit → Act → World → Prop} {a : Act} {w : World} {l : List Oper} (n : Nat) (Sp : Nat → Value → World → Prop) (R : (Nat → Bool) → Act → World → Prop) (hm : P.follows .mixedOrders = true) (hB : elderG l = true) (hD : dstsB l n a.tmps.size = true)
    (hR : R (fun _ => false) a w.drew)
    (hwant : ∀ i o, l[i]? = some o → ∀ (a' : Act) (w' : World), (∀ j, j < n → waits l i j = true → Sp j (a'.tmps.getD (slotOf l j) undef) w') → Region.wanted o (yielded l.toArray a'.tmps) = true)
    (hstep : ∀ i o, i < n → l[i]? = some o → ∀ (L : Nat → Bool) a' w', L i = false → (∀ j, waits l i j = true → L j = true) → R L a' w' → (∀ j, j < n → waits l i j = true → Sp j (a'.tmps.getD (slotOf l j) undef) w') → (∀ s, (∀ i, i < n → slotOf l i ≠ s) → a'.tmps.getD s undef = a.tmps.getD s undef) → a'.tmps.size = a.tmps.size →
      ∀ K : Act → World → Prop, (∀ v w'', Sp i v w'' → R (fun j => decide (j = i) || L j) (a'.put o.dst v) w'' → (∀ j u, Sp j u w' → Sp j u w'') → K (a'.put o.dst v) w'') → o.wp P a' w' K Q)
    (hput : ∀ i o, n ≤ i → l[i]? = some o → ∀ (L : Nat → Bool) a' w', L i = false → (∀ j, waits l i j = true → L j = true) → R L a' w' → (∀ j, j < n → waits l i j = true → Sp j (a'.tmps.getD (slotOf l j) undef) w') →
      ∀ K : Act → World → Prop, (∀ w'', R (fun j => decide (j = i) || L j) a' w'' → (∀ j u, Sp j u w' → Sp j u w'') → ∀ v, K (a'.put o.dst v) w'') → o.wp P a' w' K Q)
    (hend : ∀ (v : Nat → Value) (L : Nat → Bool) w', (∀ i, i < l.length → L i = true) → R L (putAll l a v n) w' → (∀ i, i < n → Sp i (v i) w') → Q .normal (putAll l a v n) w') :
    (Code.region id l.toArray true).wp P Q a w := by
  simp only [dstsB, Bool.and_eq_true, decide_eq_true_eq] at hD
  obtain ⟨⟨⟨hn, hd⟩, hne⟩, hno⟩ := hD
  have hdo : ∀ i, i < n → dstOf l i = some (slotOf l i) ∧ slotOf l i < a.tmps.size := fun i hi => by
    have := List.all_eq_true.1 hd i (List.mem_range.2 hi)
    unfold slotOf
    cases ho : dstOf l i with
    | none => rw [ho] at this; cases this
    | some d =>
      rw [ho] at this
      simp only [Option.map_some, Option.getD_some, decide_eq_true_eq] at this
      exact ⟨rfl, this⟩
  have hnd : ∀ i j, i < n → j < n → slotOf l i = slotOf l j → i = j := fun i j hi hj e => by
    have := List.all_eq_true.1 (List.all_eq_true.1 hne i (List.mem_range.2 hi)) j (List.mem_range.2 hj)
    simp only [Bool.or_eq_true, decide_eq_true_eq] at this
    rcases this with h | h
    · exact h
    · exact absurd (by rw [(hdo i hi).1, (hdo j hj).1, e]) h
  refine wp_invG (KnownB l n Sp a R) hm hB ⟨fun _ _ h => (by cases h), fun _ _ => rfl, rfl, rfl, hR⟩ (fun i o ho L a' w' _ hw K => hwant i o ho a' w' (fun j hj h => K.sp j hj (hw j h))) ?_ ?_
  · intro i o ho L a' w' hL hw K
    by_cases hi : i < n
    · refine hstep i o hi ho L a' w' hL hw K.world (fun j hj h => K.sp j hj (hw j h)) K.slot K.size _ (fun v w'' hv hRw hup => ?_)
      have hdst : o.dst = some (slotOf l i) := by
        have := (hdo i hi).1
        rw [dstOf, ho] at this
        simpa using this
      have hp : ∀ s, (a'.put o.dst v).tmps.getD s undef = if s = slotOf l i then v else a'.tmps.getD s undef := fun s => by
        rw [hdst]
        by_cases hsi : s = slotOf l i
        · subst hsi
          rw [if_pos rfl]
          have : slotOf l i < a'.tmps.size := by rw [K.size]; exact (hdo i hi).2
          simp [Act.put, this]
        · rw [if_neg hsi]
          simp [Act.put, Array.getElem?_setIfInBounds_ne (Ne.symm hsi)]
      refine ⟨fun j hj hlj => ?_, fun s hs => ?_, ?_, ?_, hRw⟩
      · rw [hp]
        by_cases e : j = i
        · subst e
          rw [if_pos rfl]
          exact hv
        · rw [if_neg (fun h => e (hnd j i hj hi h))]
          simp only [e, decide_false, Bool.false_or] at hlj
          exact hup _ _ (K.sp j hj hlj)
      · rw [hp, if_neg (fun h => hs i hi h.symm)]
        exact K.slot s hs
      · rw [put_defers]
        exact K.defers
      · rw [put_size]
        exact K.size
    · refine hput i o (Nat.le_of_not_lt hi) ho L a' w' hL hw K.world (fun j hj h => K.sp j hj (hw j h)) _ (fun w'' hRw hup v => ?_)
      have hdst : o.dst = none := by
        have hil : i < l.length := (List.getElem?_eq_some_iff.1 ho).1
        have := List.all_eq_true.1 hno i (List.mem_range.2 hil)
        simp only [hi, decide_false, Bool.false_or, dstOf, ho, Option.bind_some, Option.isNone_iff_eq_none] at this
        exact this
      rw [hdst]
      have e0 : a'.put none v = a' := rfl
      rw [e0]
      refine ⟨fun j hj hlj => ?_, K.slot, K.defers, K.size, hRw⟩
      have e : j ≠ i := fun h => hi (h ▸ hj)
      simp only [e, decide_false, Bool.false_or] at hlj
      exact hup _ _ (K.sp j hj hlj)
  · intro L a' w' hall K
    have e : a' = putAll l a (fun i => a'.tmps.getD (slotOf l i) undef) n := by
      refine act_ext (by rw [K.size, putAll_size]) (fun s => ?_) (by rw [K.defers, putAll_defers])
      by_cases hx : ∃ i, i < n ∧ slotOf l i = s
      · obtain ⟨i, hi, rfl⟩ := hx
        rw [putAll_in l a _ i n hdo (fun j hj hji => fun h => hji (hnd j i hj hi h)) hi]
      · have hx' : ∀ i, i < n → slotOf l i ≠ s := fun i hi h => hx ⟨i, hi, h⟩
        rw [putAll_out l a _ s n (fun i hi => (hdo i hi).1) hx', K.slot s hx']
    have hRw' := K.world
    rw [e] at hRw'
    rw [e]
    exact hend _ L w' hall hRw' (fun i hi => K.sp i hi (hall i (by omega)))

theorem want_none {o : Oper} {y : Nat → Option Bool} (h : o.guard = none) : Region.wanted o y = true := by
  unfold Region.wanted
  rw [h]
theorem want_some {o : Oper} {l : List Oper} {t : Array Value} {j k : Nat} {b : Bool} (h : o.guard = some (j, b)) (hk : dstOf l j = some k) (hv : t.getD k undef = .bool b) : Region.wanted o (yielded l.toArray t) = true := by
  have hs : t[k]? = some (.bool b) := by
    cases he : t[k]? with
    | none =>
      rw [Array.getD_eq_getD_getElem?, he] at hv
      cases hv
    | some v =>
      rw [Array.getD_eq_getD_getElem?, he] at hv
      exact congrArg some hv
  have hd : ((l.toArray[j]?).bind (·.dst)) = some k := by
    unfold dstOf at hk
    simpa using hk
  unfold Region.wanted
  rw [h]
  simp only [yielded, hd, Option.bind_some, hs, beq_self_eq_true]
end Go.Proofs.Ytbcddjaecdoliaa

namespace Go.Proofs.Ytbcddjaecdoliaa
open Go.RowKit Go.Sort

def a27Sp (B : Nat) (rv : Value) (rg roff : Nat) (p a r : Int) (m : Nat) (pt ai rt idn : ByteArray) : Nat → Value → World → Prop
  | 0, v, _ => v = rv
  | 1, v, _ => v = .pointer (some ⟨rg, roff, none⟩)
  | 2, v, _ => v = .int .i64 p
  | 3, v, _ => v = .agg #[.string pt, .string idn]
  | 4, v, w => ∃ b, v = .slice (some ⟨b, 0, none⟩) 4 4 ∧ w.heap[b]? = some (.cells a4Cs 9 (0, 0))
  | 5, v, _ => v = rv
  | 6, v, _ => v = .pointer (some ⟨rg, roff + 1, none⟩)
  | 7, v, _ => v = .int .i64 a
  | 8, v, _ => v = .int .i64 (m : Nat)
  | 9, v, w => ∃ b, v = .pointer (some ⟨b, m, none⟩) ∧ w.heap[b]? = some (.cells a4Cs 9 (0, 0))
  | 10, v, _ => v = .string ai
  | 11, v, _ => v = .agg #[.string sAction, .string ai]
  | 12, v, _ => v = rv
  | 13, v, _ => v = .pointer (some ⟨rg, roff + 2, none⟩)
  | 14, v, _ => v = .int .i64 r
  | 15, v, _ => v = .agg #[.string rt, .string idn]
  | 16, v, _ => v = .agg #[.string pt, .string idn, .string sAction, .string ai, .string rt, .string idn]
  | 17, v, w => ∃ V, v = .pointer (some ⟨V, 0, none⟩) ∧ B ≤ V ∧ w.heap[V]? = some (.cells #[.string ⟨#[]⟩, .string ⟨#[]⟩, .string ⟨#[]⟩, .string ⟨#[]⟩, .string ⟨#[]⟩, .string ⟨#[]⟩] 58 (0, 0))
  | _ + 18, _, _ => True
theorem a27Sp_up {B : Nat} {rv : Value} {rg roff : Nat} {p a r : Int} {m : Nat} {pt ai rt idn : ByteArray} {w w' : World} (hb : Below w.heap.size w w') : ∀ q u, a27Sp B rv rg roff p a r m pt ai rt idn q u w → a27Sp B rv rg roff p a r m pt ai rt idn q u w'
  | 0, _, h | 1, _, h | 2, _, h | 3, _, h | 5, _, h | 6, _, h | 7, _, h | 8, _, h | 10, _, h | 11, _, h | 12, _, h | 13, _, h | 14, _, h | 15, _, h | 16, _, h => h
  | 4, _, ⟨b, e, h⟩ => ⟨b, e, kept_of_below hb h⟩
  | 9, _, ⟨b, e, h⟩ => ⟨b, e, kept_of_below hb h⟩
  | 17, _, ⟨V, e, h1, h⟩ => ⟨V, e, h1, kept_of_below hb h⟩
  | _ + 18, _, _ => trivial
/-- What the operations of a region answer, one by one. -/
def SpL (l : List Value) : Nat → Value → World → Prop := fun q v _ => v = l.getD q undef
def a6Sp (sv ov : Value) (z : Bool) : Nat → Value → World → Prop
  | 0, v, _ => v = sv
  | 1, v, _ => v = ov
  | 2, v, _ => v = .bool z
  | 3, v, _ => v = sv
  | 4, v, _ => v = ov
  | 5, v, _ => v = .bool z
  | 6, v, _ => v = .bool false
  | 7, v, _ => v = .bool false
  | 8, v, _ => v = sv
  | 9, v, _ => v = sv
  | 10, v, _ => v = .bool true
  | 11, v, _ => v = .bool false
  | 12, v, _ => v = .bool false
  | _ + 13, _, _ => True
theorem a6Sp_up {sv ov : Value} {z : Bool} {w w' : World} : ∀ q u, a6Sp sv ov z q u w → a6Sp sv ov z q u w'
  | 0, _, h | 1, _, h | 2, _, h | 3, _, h | 4, _, h | 5, _, h | 6, _, h | 7, _, h | 8, _, h | 9, _, h | 10, _, h | 11, _, h | 12, _, h => h
  | _ + 13, _, _ => trivial
theorem knS_size (n : Int) : (knS n).size ≤ 100 := by
  unfold knS
  generalize (n % 4).toNat = m
  match m with
  | 0 | 1 | 2 | 3 => decide
  | m + 4 => exact Nat.zero_le _
theorem nmS_size (n : Int) : (nmS n).size ≤ 100 := by
  unfold nmS
  generalize (n % 7).toNat = m
  match m with
  | 0 | 1 | 2 | 3 | 4 | 5 | 6 => decide
  | m + 7 => exact Nat.zero_le _
theorem typG_nm (l : List ByteArray) (kn : ByteArray) (f : F4) : (typG l kn f).nm = f.nm := by
  unfold typG
  by_cases h : f.tn = ⟨#[]⟩
  · rw [if_pos h]
  · rw [if_neg h]
    cases noneB l f.tn <;> rfl
theorem fieldsG_mem (l : List ByteArray) (kn : ByteArray) (fs : List F4) : ∀ f ∈ fieldsG l kn fs, ∃ g ∈ fs, f.nm = g.nm := by
  have : ∀ (t acc : List F4), (∀ f ∈ acc, ∃ g ∈ fs, f.nm = g.nm) → (∀ f ∈ t, f ∈ fs) → ∀ f ∈ t.foldl (fldG l kn) acc, ∃ g ∈ fs, f.nm = g.nm := by
    intro t
    induction t with
    | nil => intro acc h _; simpa using h
    | cons a t ih =>
      intro acc h ht
      simp only [List.foldl_cons]
      refine ih _ (fun f hf => ?_) (fun f hf => ht f (List.mem_cons_of_mem _ hf))
      unfold fldG at hf
      cases e : okFl acc (typG l kn a)
      · rw [e] at hf
        exact h f hf
      · rw [e, if_pos rfl] at hf
        rcases List.mem_append.1 hf with hf | hf
        · exact h f hf
        · rw [List.mem_singleton.1 hf]
          exact ⟨a, ht a List.mem_cons_self, typG_nm l kn a⟩
  exact this fs [] (fun f hf => absurd hf List.not_mem_nil) (fun f hf => hf)
/-- The names of a good schema are short. -/
theorem names_small (ks : List LK) (as_ : List LA) : ∀ k ∈ (goodS (schemaS ks as_)).ks, k.nm.size ≤ 100 ∧ ∀ f ∈ k.fs, f.nm.size ≤ 100 := by
  intro k hk
  obtain ⟨b, hb, rfl⟩ := List.mem_map.1 hk
  have hb' := good1_mem (schemaS ks as_).ks names4 b hb
  obtain ⟨x, _, rfl⟩ := List.mem_map.1 hb'
  refine ⟨knS_size x.nm, fun f hf => ?_⟩
  obtain ⟨g, hg, e⟩ := fieldsG_mem _ _ _ f hf
  obtain ⟨y, _, rfl⟩ := List.mem_map.1 hg
  rw [e]
  exact nmS_size y.nm
theorem small_few {s : SP} (h : Few10 s) (hn : ∀ k ∈ s.ks, k.nm.size ≤ 100 ∧ ∀ f ∈ k.fs, f.nm.size ≤ 100) : SmallAll s := small_of (by have := h.ks; omega) (by have := h.ac; omega) (fun k hk => by
  have h1 := h.k k hk
  have h2 := hn k hk
  exact ⟨by omega, by omega, by omega, fun j hj => by have := h2.2 k.fs[j] (List.getElem_mem hj); omega⟩) (fun a ha => by have := h.a a ha; exact ⟨by omega, by omega, by omega⟩)
set_option maxHeartbeats 16000000 in
set_option maxRecDepth 1000000 in
theorem asks_walk (ks os : List LK) (as_ : List LA) (ko oo ao : Option Addr) (kc oc ac : Nat) (nl : List ByteArray) (no : Option Addr) (nc : Nat) (rl : List Int) (ro : Option Addr) (rc : Nat) (w : World) (hk : IsLKs w ko ks) (ho : IsLKs w oo os) (ha : IsLAs w ao as_) (hkp : ∀ j (h : j < ks.length), ks[j].ps.length ≤ 9223372036854775807 ∧ ks[j].fs.length ≤ 9223372036854775807) (hop : ∀ j (h : j < os.length), os[j].ps.length ≤ 9223372036854775807 ∧ os[j].fs.length ≤ 9223372036854775807) (hap : ∀ j (h : j < as_.length), as_[j].p.length ≤ 9223372036854775807 ∧ as_[j].r.length ≤ 9223372036854775807) (hn : RowS w no nl) (hr : RowG w ro 1 (rl.map intC)) :
    Calls Try.prog 4 #[.slice ko ks.length kc, .slice ao as_.length ac, .slice oo os.length oc, .slice no nl.length nc, .slice ro rl.length rc] w fun e w' => e = .returned (.bool true) ∧ Below w.heap.size w w' := by
  have C0 := known10_any w
  have CG := fun w' (hb : Below w.heap.size w w') => good_any ks as_ ko ao kc ac w' (lks_below hk hb) (las_below ha hb) hkp hap
  have CO := fun w' (hb : Below w.heap.size w w') => good_any os as_ oo ao oc ac w' (lks_below ho hb) (las_below ha hb) hop hap
  have hfewG := few_good (tiny_schema ks as_)
  have hnsG := names_small ks as_
  have HN := hide hn
  have HR := hide hr
  clear hk ho ha hkp hop hap hn hr
  generalize goodS (schemaS ks as_) = G at *
  generalize goodS (schemaS os as_) = O at *
  go_enter Try.func4, Try.ntmps4
  go_wp2_with fail
  refine C0.mono ?_
  clear C0
  rintro e w0 ⟨rfl, b0⟩
  by_cases hnl : 10 < nl.length
  · have n1 : (10 : Int) < (nl.length : Int) := by omega
    clear CG CO
    go_wp2
    go_ret
    exact ⟨rfl, b0⟩
  have n1 : ¬ (10 : Int) < (nl.length : Int) := by omega
  have CG := CG w0 b0
  go_wp2_with fail
  refine CG.mono ?_
  clear CG
  rintro e w1 ⟨b1, v1, rfl, hS1⟩
  have b01 := b0.trans (b1.mono b0.size)
  obtain ⟨sko, skc, sao, sac, rfl, hKs0, _⟩ := hS1.is.ex
  have HKs := hide hKs0
  clear hKs0
  have CO := CO w1 b01
  go_wp2_with fail
  refine CO.mono ?_
  clear CO
  rintro e w2 ⟨b2, v2, rfl, hO⟩
  have hS := hS1.below b2
  obtain ⟨oko, okc, oao, oac, rfl, _, _⟩ := hO.is.ex
  have b02 := b01.trans (b2.mono b01.size)
  clear hS1
  go_upto_region 6 with fail
  have b23 := blw2 w2 (.cells #[.slice sko G.ks.length skc, .slice sao G.ac.length sac] 25) (.cells #[.slice oko O.ks.length okc, .slice oao O.ac.length oac] 25)
  have HBs : ((w2.alloc (.cells #[.slice sko G.ks.length skc, .slice sao G.ac.length sac] 25)).alloc (.cells #[.slice oko O.ks.length okc, .slice oao O.ac.length oac] 25)).heap[w2.heap.size]? = some (.cells #[.slice sko G.ks.length skc, .slice sao G.ac.length sac] 25 (0, 0)) := by
    rw [Below.heap_alloc _ _ _ (by simp)]
    exact alloc_heap _ _
  have HBo : ((w2.alloc (.cells #[.slice sko G.ks.length skc, .slice sao G.ac.length sac] 25)).alloc (.cells #[.slice oko O.ks.length okc, .slice oao O.ac.length oac] 25)).heap[w2.heap.size + 1]? = some (.cells #[.slice oko O.ks.length okc, .slice oao O.ac.length oac] 25 (0, 0)) := by
    have := alloc_heap (w2.alloc (.cells #[.slice sko G.ks.length skc, .slice sao G.ac.length sac] 25)) (.cells #[.slice oko O.ks.length okc, .slice oao O.ac.length oac] 25)
    simpa using this
  have hS := hS.below b23
  have hO := hO.below b23
  have b03 := b02.trans (b23.mono b02.size)
  have b13 := b2.trans (b23.mono b2.size)
  have hsmG := small_few hfewG hnsG
  have hsmK : ∀ k ∈ G.ks, k.ps.length ≤ 1048576 ∧ k.fs.length ≤ 1048576 := fun k hk => by have := hfewG.k k hk; omega
  have hsmA : ∀ k ∈ G.ac, k.pr.length ≤ 1048576 ∧ k.re.length ≤ 1048576 := fun k hk => by have := hfewG.a k hk; omega
  generalize (w2.alloc _).alloc _ = w3 at *
  clear b23
  have CM := fun w' (hb : Below w3.heap.size w3 w') => mSame_any G O _ _ w' hsmG (hS.is.below hb) (hO.is.below hb)
  have CR0 := fun w' (hb : Below w3.heap.size w3 w') => rSame_any G O _ _ w' hsmG (hS.is.below hb) (hO.is.below hb)
  have CS := fun w' (hb : Below w3.heap.size w3 w') => mSame_any G G _ _ w' hsmG (hS.is.below hb) (hS.is.below hb)
  rw [decide_eq_true (rfl : G = G)] at CS
  generalize decide (G = O) = z at *
  refine wp_specsG 13 (a6Sp (.agg #[.slice sko G.ks.length skc, .slice sao G.ac.length sac]) (.agg #[.slice oko O.ks.length okc, .slice oao O.ac.length oac]) z) (fun _ _ w' => Below w3.heap.size w3 w') (by kernel_rfl) (by kernel_rfl) (by kernel_rfl) (Below.refl _ w3).drew ?_ ?_ ?_ ?_
  · intro q o ho a' w' hdep
    have hq : q < 13 := (List.getElem?_eq_some_iff.1 ho).1
    have hc : q = 0 ∨ q = 1 ∨ q = 2 ∨ q = 3 ∨ q = 4 ∨ q = 5 ∨ q = 6 ∨ q = 7 ∨ q = 8 ∨ q = 9 ∨ q = 10 ∨ q = 11 ∨ q = 12 := by omega
    rcases hc with rfl | rfl | rfl | rfl | rfl | rfl | rfl | rfl | rfl | rfl | rfl | rfl | rfl <;> cases ho
    all_goals first | exact want_none rfl | exact want_some rfl rfl (hdep 7 (by decide) (by kernel_rfl))
  · intro q o hq' ho L a' w' _ _ hR hdep hslot _ K hK
    have HB' := kept_of_below hR HBs
    have HO' := kept_of_below hR HBo
    have s0 : w'.cell? ⟨w2.heap.size, 0, none⟩ = some (.slice sko G.ks.length skc) := by rw [Lib.cell_of_heap HB']; rfl
    have s1 : w'.cell? ⟨w2.heap.size, 1, none⟩ = some (.slice sao G.ac.length sac) := by rw [Lib.cell_of_heap HB']; rfl
    have o0 : w'.cell? ⟨w2.heap.size + 1, 0, none⟩ = some (.slice oko O.ks.length okc) := by rw [Lib.cell_of_heap HO']; rfl
    have o1 : w'.cell? ⟨w2.heap.size + 1, 1, none⟩ = some (.slice oao O.ac.length oac) := by rw [Lib.cell_of_heap HO']; rfl
    clear HB' HO'
    have hc : q = 0 ∨ q = 1 ∨ q = 2 ∨ q = 3 ∨ q = 4 ∨ q = 5 ∨ q = 6 ∨ q = 7 ∨ q = 8 ∨ q = 9 ∨ q = 10 ∨ q = 11 ∨ q = 12 := by omega
    rcases hc with rfl | rfl | rfl | rfl | rfl | rfl | rfl | rfl | rfl | rfl | rfl | rfl | rfl
    · cases ho
      have e0 : a'.tmps.getD 11 undef = .pointer (some ⟨w2.heap.size, 0, none⟩) := hslot 11 (by decide)
      clear o0 o1
      unfold Oper.wp
      go_simp
      exact hK _ _ rfl hR (fun _ _ h => h)
    · cases ho
      have e0 : a'.tmps.getD 12 undef = .pointer (some ⟨w2.heap.size + 1, 0, none⟩) := hslot 12 (by decide)
      clear s0 s1
      unfold Oper.wp
      go_simp
      exact hK _ _ rfl hR (fun _ _ h => h)
    · cases ho
      have e0 : a'.tmps.getD 40 undef = .agg #[.slice sko G.ks.length skc, .slice sao G.ac.length sac] := hdep 0 (by decide) (by kernel_rfl)
      have e1 : a'.tmps.getD 41 undef = .agg #[.slice oko O.ks.length okc, .slice oao O.ac.length oac] := hdep 1 (by decide) (by kernel_rfl)
      clear s0 s1 o0 o1
      unfold Oper.wp
      go_simp
      refine (CM w' hR).mono ?_
      rintro e w9 ⟨rfl, b9⟩
      exact hK _ _ rfl (hR.trans (b9.mono hR.size)) a6Sp_up
    · cases ho
      have e0 : a'.tmps.getD 11 undef = .pointer (some ⟨w2.heap.size, 0, none⟩) := hslot 11 (by decide)
      clear o0 o1
      unfold Oper.wp
      go_simp
      exact hK _ _ rfl hR (fun _ _ h => h)
    · cases ho
      have e0 : a'.tmps.getD 12 undef = .pointer (some ⟨w2.heap.size + 1, 0, none⟩) := hslot 12 (by decide)
      clear s0 s1
      unfold Oper.wp
      go_simp
      exact hK _ _ rfl hR (fun _ _ h => h)
    · cases ho
      have e0 : a'.tmps.getD 43 undef = .agg #[.slice sko G.ks.length skc, .slice sao G.ac.length sac] := hdep 3 (by decide) (by kernel_rfl)
      have e1 : a'.tmps.getD 44 undef = .agg #[.slice oko O.ks.length okc, .slice oao O.ac.length oac] := hdep 4 (by decide) (by kernel_rfl)
      clear s0 s1 o0 o1
      unfold Oper.wp
      go_simp
      refine (CR0 w' hR).mono ?_
      rintro e w9 ⟨rfl, b9⟩
      exact hK _ _ rfl (hR.trans (b9.mono hR.size)) a6Sp_up
    · cases ho
      have e0 : a'.tmps.getD 42 undef = .bool z := hdep 2 (by decide) (by kernel_rfl)
      have e1 : a'.tmps.getD 45 undef = .bool z := hdep 5 (by decide) (by kernel_rfl)
      clear s0 s1 o0 o1
      unfold Oper.wp
      cases z <;> (go_simp; exact hK _ _ rfl hR (fun _ _ h => h))
    · cases ho
      have e0 : a'.tmps.getD 46 undef = .bool false := hdep 6 (by decide) (by kernel_rfl)
      clear s0 s1 o0 o1
      unfold Oper.wp
      go_simp
      exact hK _ _ rfl hR (fun _ _ h => h)
    · cases ho
      have e0 : a'.tmps.getD 11 undef = .pointer (some ⟨w2.heap.size, 0, none⟩) := hslot 11 (by decide)
      clear o0 o1
      unfold Oper.wp
      go_simp
      exact hK _ _ rfl hR (fun _ _ h => h)
    · cases ho
      have e0 : a'.tmps.getD 11 undef = .pointer (some ⟨w2.heap.size, 0, none⟩) := hslot 11 (by decide)
      clear o0 o1
      unfold Oper.wp
      go_simp
      exact hK _ _ rfl hR (fun _ _ h => h)
    · cases ho
      have e0 : a'.tmps.getD 48 undef = .agg #[.slice sko G.ks.length skc, .slice sao G.ac.length sac] := hdep 8 (by decide) (by kernel_rfl)
      have e1 : a'.tmps.getD 49 undef = .agg #[.slice sko G.ks.length skc, .slice sao G.ac.length sac] := hdep 9 (by decide) (by kernel_rfl)
      clear s0 s1 o0 o1
      unfold Oper.wp
      go_simp
      refine (CS w' hR).mono ?_
      rintro e w9 ⟨rfl, b9⟩
      exact hK _ _ rfl (hR.trans (b9.mono hR.size)) a6Sp_up
    · cases ho
      have e0 : a'.tmps.getD 50 undef = .bool true := hdep 10 (by decide) (by kernel_rfl)
      clear s0 s1 o0 o1
      unfold Oper.wp
      go_simp
      exact hK _ _ rfl hR (fun _ _ h => h)
    · cases ho
      have e0 : a'.tmps.getD 47 undef = .bool false := hdep 7 (by decide) (by kernel_rfl)
      have e1 : a'.tmps.getD 51 undef = .bool false := hdep 11 (by decide) (by kernel_rfl)
      clear s0 s1 o0 o1
      unfold Oper.wp
      go_simp
      exact hK _ _ rfl hR (fun _ _ h => h)
  · intro q o hi ho
    exact absurd (List.getElem?_eq_some_iff.1 ho).1 (Nat.not_lt.2 hi)
  · intro v L w' _ hR hall
    have f0 := hall 0 (by decide)
    have f1 := hall 1 (by decide)
    have f2 := hall 2 (by decide)
    have f3 := hall 3 (by decide)
    have f4 := hall 4 (by decide)
    have f5 := hall 5 (by decide)
    have f6 := hall 6 (by decide)
    have f7 := hall 7 (by decide)
    have f8 := hall 8 (by decide)
    have f9 := hall 9 (by decide)
    have f10 := hall 10 (by decide)
    have f11 := hall 11 (by decide)
    have f12 := hall 12 (by decide)
    unfold a6Sp at f0 f1 f2 f3 f4 f5 f6 f7 f8 f9 f10 f11 f12
    simp only [putAll, dstOf, List.getElem?_cons_zero, List.getElem?_cons_succ, Option.bind_some, f0, f1, f2, f3, f4, f5, f6, f7, f8, f9, f10, f11, f12]
    clear f0 f1 f2 f3 f4 f5 f6 f7 f8 f9 f10 f11 f12 hall
    simp only [Act.put, List.setIfInBounds_toArray, List.set_cons_succ, List.set_cons_zero]
    obtain ⟨w4, hw4⟩ : ∃ y, y = w' := ⟨_, rfl⟩
    subst hw4
    have b34 := hR
    have hS := hS.below b34
    have HBs := kept_of_below b34 HBs
    have b04 := b03.trans (b34.mono b03.size)
    have b14 := b13.trans (b34.mono b13.size)
    clear hR CM CR0 CS HBo hO
    obtain ⟨nine, hnine⟩ : ∃ nine : List ByteArray, nine = nine9 := ⟨_, rfl⟩
    have b45 := blw1 w4 (.cells (nine9.map Value.string).toArray 9)
    have own5 : (w4.alloc (.cells (nine9.map Value.string).toArray 9)).ownsRow w4.heap.size 9 1 (.slice (some ⟨w4.heap.size, 0, none⟩) 9 9) nine9.length (nine9.map Value.string) := ⟨rfl, .inr ⟨w4.heap.size, 9, _, rfl, Nat.le_refl _, alloc_heap _ _, Nat.le_refl _, by unfold maxLen; omega, rfl, rfl⟩⟩
    have HN5 := hide ((unhide HN).below (b04.trans (b45.mono b04.size)))
    have z5 : w4.heap.size < (w4.alloc (.cells (nine9.map Value.string).toArray 9)).heap.size := by simp
    have Hown5 := hide own5
    have hn20 : nine9.length + nl.length ≤ 1000000 := by
      have : nine9.length = 9 := rfl
      omega
    clear own5 hnine
    unfold nine9 at b45 z5
    simp only [List.map_cons, List.map_nil] at b45 z5
    go_wp2_with (at_builtin; refine wpList_appS rfl _ _ rfl rfl rfl (unhide Hown5) rfl (unhide HN5) hn20 (Nat.le_of_lt ?z1) ?_)
    case z1 => exact z5
    intro va wL hownA hgrow
    obtain ⟨al, hal⟩ : ∃ al, al = nine9 ++ nl := ⟨_, rfl⟩
    have hall : al.length ≤ 100 := by
      rw [hal, List.length_append]
      have : nine9.length = 9 := rfl
      omega
    have hownA : wL.ownsRow w4.heap.size 9 1 va al.length (al.map Value.string) := by rw [hal]; first | exact hownA | (rw [List.length_append, List.map_append]; exact hownA) | simpa using hownA
    clear hal
    have b4L : Below w4.heap.size w4 wL := b45.grown hgrow b45.size (fun j hj => by have := ((unhide Hown5).lt j hj).1; exact this)
    rw [← strC_list] at hownA
    obtain ⟨alo, alc, rfl, hrowA, _, _⟩ := own_row lenS hownA
    have HRA := hide (show RowS wL alo al from hrowA)
    have hS := hS.below b4L
    have HBs := kept_of_below b4L HBs
    have b0L := b04.trans (b4L.mono b04.size)
    have b1L := b14.trans (b4L.mono b14.size)
    clear hownA hgrow Hown5 HN5 b45 z5 hrowA hn20 HN
    go_upto_block 0 with fail
    go_cut [] from 15 (fun wc => Below wL.heap.size wL wc)
    case first =>
      go_wp2_with fail
      go_loopw [14] (fun iv wr => ∃ i : Nat, iv = .int .i64 i ∧ i ≤ al.length ∧ Below wL.heap.size wL wr) (fun iv _ => al.length - (intOf iv).toNat)
      case atStart => exact ⟨0, by go_num, Nat.zero_le _, Below.refl _ _⟩
      case round =>
        obtain ⟨i, rfl, hil, hbr⟩ := hrel
        by_cases hlt : i < al.length
        · have i0 : (0 : Int) ≤ (i : Int) := by omega
          have i1 : (i : Int) < (al.length : Int) := by omega
          obtain ⟨g, off, rfl, hgL, cxP⟩ := (unhide HRA).get hbr hlt
          obtain ⟨x, hx⟩ : ∃ x, x = al[i] := ⟨_, rfl⟩
          rw [← hx] at cxP
          clear hx
          have hgrP : g < wr.heap.size := by have := hbr.size; omega
          have HBsP := kept_of_below hbr HBs
          have hSr := hS.below hbr
          have CKP := fun w' (hb : Below wr.heap.size wr w') => (mKind_any G _ x w' hsmG.sm.1 hsmK (hSr.is.below hb)).mono (fun e w9 h => And.intro (found_k h.1) h.2)
          have CKQ := fun w' (hb : Below wr.heap.size wr w') => (rKindT_any G _ x w' hsmG.sm.1 (hSr.below hb)).mono (fun e w9 h => And.intro (found_k h.1) h.2)
          have CAR := fun w' (hb : Below wr.heap.size wr w') => (mAction_any G _ x w' hsmG.sm.2 hsmA (hSr.is.below hb)).mono (fun e w9 h => And.intro (found_a h.1) h.2)
          have CAS := fun w' (hb : Below wr.heap.size wr w') => (rActionT_any G _ x w' hsmG.sm.2 (hSr.below hb)).mono (fun e w9 h => And.intro (found_a h.1) h.2)
          have hQK : ∀ (w w' : World) (y : N3), KeepSF w w' → IsKT w y (kOf G x) → IsKT w' y (kOf G x) := fun _ _ _ hk h => h.turn hk
          have hQA : ∀ (w w' : World) (y : N3), KeepSF w w' → IsAT w y (aOf G x) → IsAT w' y (aOf G x) := fun _ _ _ hk h => h.turn hk
          generalize (!noneB G.names x) = isk at *
          generalize (!noneB G.acts x) = isa at *
          clear hSr
          go_upto_region 12 with fail
          refine wp_specsD (skSp (.agg #[.slice sko G.ks.length skc, .slice sao G.ac.length sac]) (.slice (some ⟨g, off, none⟩) al.length alc) i g off x (isk) (fun w y => IsKT w y (kOf G x))) (GK 15 wr 42 (fun w y => IsKT w y (kOf G x))) (by kernel_rfl) (by kernel_rfl) (by kernel_rfl) (GK.start _ wr) ?_ ?_ ?_
          · intro q o d ho hd L a' w' hL hw hRR hdep hslot hsz K hK
            have hqN : q < 12 := dstOf_lt hd
            have hR := hRR.below
            have HBw := kept_of_below hR HBsP
            have cb0 : w'.cell? ⟨w2.heap.size, 0, none⟩ = some (.slice sko G.ks.length skc) := by rw [Lib.cell_of_heap HBw]; rfl
            have cb1 : w'.cell? ⟨w2.heap.size, 1, none⟩ = some (.slice sao G.ac.length sac) := by rw [Lib.cell_of_heap HBw]; rfl
            have cx : w'.cell? ⟨g, off + i, none⟩ = some (.string x) := (hR.cell (p := ⟨g, off + i, none⟩) hgrP).trans cxP
            clear HBw
            have hs11 : a'.tmps.getD 11 undef = .pointer (some ⟨w2.heap.size, 0, none⟩) := hslot 11 (fun q h => by have hl := dstOf_lt h; match q, hl with | 0, _ => cases h | 1, _ => cases h | 2, _ => cases h | 3, _ => cases h | 4, _ => cases h | 5, _ => cases h | 6, _ => cases h | 7, _ => cases h | 8, _ => cases h | 9, _ => cases h | 10, _ => cases h | 11, _ => cases h)
            have hs13 : a'.tmps.getD 13 undef = .slice (some ⟨g, off, none⟩) al.length alc := hslot 13 (fun q h => by have hl := dstOf_lt h; match q, hl with | 0, _ => cases h | 1, _ => cases h | 2, _ => cases h | 3, _ => cases h | 4, _ => cases h | 5, _ => cases h | 6, _ => cases h | 7, _ => cases h | 8, _ => cases h | 9, _ => cases h | 10, _ => cases h | 11, _ => cases h)
            have hs14 : a'.tmps.getD 14 undef = .int .i64 i := hslot 14 (fun q h => by have hl := dstOf_lt h; match q, hl with | 0, _ => cases h | 1, _ => cases h | 2, _ => cases h | 3, _ => cases h | 4, _ => cases h | 5, _ => cases h | 6, _ => cases h | 7, _ => cases h | 8, _ => cases h | 9, _ => cases h | 10, _ => cases h | 11, _ => cases h)
            have hc : q = 0 ∨ q = 1 ∨ q = 2 ∨ q = 3 ∨ q = 4 ∨ q = 5 ∨ q = 6 ∨ q = 7 ∨ q = 8 ∨ q = 9 ∨ q = 10 ∨ q = 11 := by omega
            rcases hc with rfl | rfl | rfl | rfl | rfl | rfl | rfl | rfl | rfl | rfl | rfl | rfl
            · cases ho
              cases hd
              have e0 := hs11
              clear cx
              unfold Oper.wp
              go_simp
              exact hK _ _ rfl (GK.step (Q := fun w y => IsKT w y (kOf G x)) (s := 15) hQK hRR (Below.refl _ w') 0 63 _ (by decide) (by decide) (by decide)) (fun _ _ h => h)
            · cases ho
              cases hd
              have e0 := hs13
              clear cb0 cb1 cx
              unfold Oper.wp
              go_simp
              exact hK _ _ rfl (GK.step (Q := fun w y => IsKT w y (kOf G x)) (s := 15) hQK hRR (Below.refl _ w') 1 64 _ (by decide) (by decide) (by decide)) (fun _ _ h => h)
            · cases ho
              cases hd
              have e0 := hs14
              clear cb0 cb1 cx
              unfold Oper.wp
              go_simp
              exact hK _ _ rfl (GK.step (Q := fun w y => IsKT w y (kOf G x)) (s := 15) hQK hRR (Below.refl _ w') 2 65 _ (by decide) (by decide) (by decide)) (fun _ _ h => h)
            · cases ho
              cases hd
              have e0 : a'.tmps.getD 64 undef = .slice (some ⟨g, off, none⟩) al.length alc := hdep 1 64 rfl (by kernel_rfl)
              have e0' : a'.tmps[64]?.getD undef = .slice (some ⟨g, off, none⟩) al.length alc := by simpa using e0
              have e1 : a'.tmps.getD 65 undef = .int .i64 i := hdep 2 65 rfl (by kernel_rfl)
              have e1' : a'.tmps[65]?.getD undef = .int .i64 i := by simpa using e1
              clear cb0 cb1 cx
              unfold Oper.wp
              go_simp
              exact hK _ _ rfl (GK.step (Q := fun w y => IsKT w y (kOf G x)) (s := 15) hQK hRR (Below.refl _ w') 3 66 _ (by decide) (by decide) (by decide)) (fun _ _ h => h)
            · cases ho
              cases hd
              have e0 : a'.tmps.getD 66 undef = .pointer (some ⟨g, off + i, none⟩) := hdep 3 66 rfl (by kernel_rfl)
              have e0' : a'.tmps[66]?.getD undef = .pointer (some ⟨g, off + i, none⟩) := by simpa using e0
              clear cb0 cb1
              unfold Oper.wp
              go_simp
              exact hK _ _ rfl (GK.step (Q := fun w y => IsKT w y (kOf G x)) (s := 15) hQK hRR (Below.refl _ w') 4 67 _ (by decide) (by decide) (by decide)) (fun _ _ h => h)
            · cases ho
              cases hd
              have e0 : a'.tmps.getD 63 undef = .agg #[.slice sko G.ks.length skc, .slice sao G.ac.length sac] := hdep 0 63 rfl (by kernel_rfl)
              have e0' : a'.tmps[63]?.getD undef = .agg #[.slice sko G.ks.length skc, .slice sao G.ac.length sac] := by simpa using e0
              have e1 : a'.tmps.getD 67 undef = .string x := hdep 4 67 rfl (by kernel_rfl)
              have e1' : a'.tmps[67]?.getD undef = .string x := by simpa using e1
              clear cb0 cb1 cx
              unfold Oper.wp
              go_simp
              refine (CKP w' hR).mono ?_
              rintro e w9 ⟨⟨y, rfl, hy⟩, b9⟩
              exact hK _ _ ⟨y, rfl, hy⟩ (GK.step (Q := fun w y => IsKT w y (kOf G x)) (s := 15) hQK hRR b9 5 68 _ (by decide) (by decide) (by decide)) (skSp_up (Q := fun w y => IsKT w y (kOf G x)) hQK (.of_below b9))
            · cases ho
              cases hd
              obtain ⟨y, e1, hy⟩ : skSp (.agg #[.slice sko G.ks.length skc, .slice sao G.ac.length sac]) (.slice (some ⟨g, off, none⟩) al.length alc) i g off x (isk) (fun w y => IsKT w y (kOf G x)) 5 (a'.tmps.getD 68 undef) w' := hdep 5 68 rfl (by kernel_rfl)
              have e1' : a'.tmps[68]?.getD undef = .tuple #[.agg #[.string y.nm, .slice y.ao y.al y.ac, .slice y.bo y.bl y.bc], .bool (isk)] := by simpa using e1
              have Hy := hide hy
              clear hy
              clear cb0 cb1 cx
              unfold Oper.wp
              go_simp
              exact hK _ _ ⟨y, rfl, unhide Hy⟩ (GK.step (Q := fun w y => IsKT w y (kOf G x)) (s := 15) hQK hRR (Below.refl _ w') 6 62 _ (by decide) (by decide) (by decide)) (fun _ _ h => h)
            · cases ho
              cases hd
              obtain ⟨y, e1, hy⟩ : skSp (.agg #[.slice sko G.ks.length skc, .slice sao G.ac.length sac]) (.slice (some ⟨g, off, none⟩) al.length alc) i g off x (isk) (fun w y => IsKT w y (kOf G x)) 6 (a'.tmps.getD 62 undef) w' := hdep 6 62 rfl (by kernel_rfl)
              have e1' : a'.tmps[62]?.getD undef = .tuple #[.agg #[.string y.nm, .slice y.ao y.al y.ac, .slice y.bo y.bl y.bc], .bool (isk)] := by simpa using e1
              have Hy := hide hy
              clear hy
              clear cb0 cb1 cx
              unfold Oper.wp
              go_simp
              exact hK _ _ ⟨y, rfl, unhide Hy⟩ (GK.step (Q := fun w y => IsKT w y (kOf G x)) (s := 15) hQK hRR (Below.refl _ w') 7 69 _ (by decide) (by decide) (by decide)) (fun _ _ h => h)
            · cases ho
              cases hd
              obtain ⟨y, e1, hy⟩ : skSp (.agg #[.slice sko G.ks.length skc, .slice sao G.ac.length sac]) (.slice (some ⟨g, off, none⟩) al.length alc) i g off x (isk) (fun w y => IsKT w y (kOf G x)) 6 (a'.tmps.getD 62 undef) w' := hdep 6 62 rfl (by kernel_rfl)
              have e1' : a'.tmps[62]?.getD undef = .tuple #[.agg #[.string y.nm, .slice y.ao y.al y.ac, .slice y.bo y.bl y.bc], .bool (isk)] := by simpa using e1
              have Hy := hide hy
              clear hy
              clear cb0 cb1 cx
              unfold Oper.wp
              go_simp
              exact hK _ _ rfl (GK.step (Q := fun w y => IsKT w y (kOf G x)) (s := 15) hQK hRR (Below.refl _ w') 8 70 _ (by decide) (by decide) (by decide)) (fun _ _ h => h)
            · cases ho
              cases hd
              clear cb0 cb1 cx
              unfold Oper.wp
              go_simp
              exact hK _ _ trivial (hRR.alloc hL (by rw [hsz]; first | decide | simp)) (skSp_up (Q := fun w y => IsKT w y (kOf G x)) hQK (.of_below (blw1 _ _)))
            · cases hd
            · cases ho
              cases hd
              have e0 : a'.tmps.getD 70 undef = .bool (isk) := hdep 8 70 rfl (by kernel_rfl)
              have e0' : a'.tmps[70]?.getD undef = .bool (isk) := by simpa using e0
              clear cb0 cb1 cx
              unfold Oper.wp
              go_simp
              exact hK _ _ rfl (GK.step (Q := fun w y => IsKT w y (kOf G x)) (s := 15) hQK hRR (Below.refl _ w') 11 16 _ (by decide) (by decide) (by decide)) (fun _ _ h => h)
          · intro q o ho hd L a' w' hL hw hRR hdep K hK
            have hqN : q < 12 := (List.getElem?_eq_some_iff.1 ho).1
            have hR := hRR.below
            have HBw := kept_of_below hR HBsP
            have cb0 : w'.cell? ⟨w2.heap.size, 0, none⟩ = some (.slice sko G.ks.length skc) := by rw [Lib.cell_of_heap HBw]; rfl
            have cb1 : w'.cell? ⟨w2.heap.size, 1, none⟩ = some (.slice sao G.ac.length sac) := by rw [Lib.cell_of_heap HBw]; rfl
            have cx : w'.cell? ⟨g, off + i, none⟩ = some (.string x) := (hR.cell (p := ⟨g, off + i, none⟩) hgrP).trans cxP
            clear HBw
            have hc : q = 0 ∨ q = 1 ∨ q = 2 ∨ q = 3 ∨ q = 4 ∨ q = 5 ∨ q = 6 ∨ q = 7 ∨ q = 8 ∨ q = 9 ∨ q = 10 ∨ q = 11 := by omega
            rcases hc with rfl | rfl | rfl | rfl | rfl | rfl | rfl | rfl | rfl | rfl | rfl | rfl
            · cases hd
            · cases hd
            · cases hd
            · cases hd
            · cases hd
            · cases hd
            · cases hd
            · cases hd
            · cases hd
            · cases hd
            · cases ho
              obtain ⟨y, e1, hy⟩ : skSp (.agg #[.slice sko G.ks.length skc, .slice sao G.ac.length sac]) (.slice (some ⟨g, off, none⟩) al.length alc) i g off x (isk) (fun w y => IsKT w y (kOf G x)) 7 (a'.tmps.getD 69 undef) w' := hdep 7 69 rfl (by kernel_rfl)
              have e1' : a'.tmps[69]?.getD undef = .agg #[.string y.nm, .slice y.ao y.al y.ac, .slice y.bo y.bl y.bc] := by simpa using e1
              have Hy := hide hy
              clear hy
              obtain ⟨V, eV, hVz, hS, hkf⟩ := GK.store (Q := fun w y => IsKT w y (kOf G x)) (.inl rfl) hQK hRR (hw 9 (by kernel_rfl)) hL y (unhide Hy)
              have d0 : w'.cell? ⟨V, 0, none⟩ = some (.string ⟨#[]⟩) := by rw [Lib.cell_of_heap hVz]; rfl
              have d1 : w'.cell? ⟨V, 1, none⟩ = some (.slice none 0 0) := by rw [Lib.cell_of_heap hVz]; rfl
              have d2 : w'.cell? ⟨V, 2, none⟩ = some (.slice none 0 0) := by rw [Lib.cell_of_heap hVz]; rfl
              have df : ∀ o, w'.frozen? ⟨V, o, none⟩ = false := fun o => Lib.frozen_of_heap hVz o
              have HS := hide (And.intro hS hkf)
              clear hVz cb0 cb1 cx hS hkf
              unfold Oper.wp
              go_simp
              exact hK _ (unhide HS).1 (skSp_up (Q := fun w y => IsKT w y (kOf G x)) hQK (unhide HS).2) undef
            · cases hd
          · intro v L w' hLa hRR hv
            have bqP := hRR.below
            obtain ⟨VP, yP, eV, hVw, hVP, hyP⟩ := hRR.full (hLa 10 (by decide))
            have f0 : v 0 = _ := (hv 0 63 rfl).1
            have f1 : v 1 = _ := (hv 1 64 rfl).1
            have f2 : v 2 = _ := (hv 2 65 rfl).1
            have f3 : v 3 = _ := (hv 3 66 rfl).1
            have f4 : v 4 = _ := (hv 4 67 rfl).1
            have f8 : v 8 = _ := (hv 8 70 rfl).1
            have f9 : v 9 = .pointer (some ⟨VP, 0, none⟩) := ((hv 9 15 rfl).2).symm.trans eV
            have f11 : v 11 = .bool (isk) := (hv 11 16 rfl).1
            clear hRR hv hLa eV
            simp only [putAll, dstOf, List.getElem?_cons_zero, List.getElem?_cons_succ, Option.bind_some, List.length_cons, List.length_nil, f0, f1, f2, f3, f4, f8, f9, f11]
            clear f0 f1 f2 f3 f4 f8 f9 f11
            simp only [Act.put, List.setIfInBounds_toArray, List.set_cons_succ, List.set_cons_zero]
            generalize v 5 = v5P
            generalize v 6 = v6P
            generalize v 7 = v7P
            generalize v 10 = v10P
            obtain ⟨wP, hwP⟩ : ∃ q, q = w' := ⟨_, rfl⟩
            subst hwP
            have bPP := bqP
            have HBsQ := kept_of_below bPP HBsP
            have hgrQ : g < wP.heap.size := by have := bPP.size; omega
            have cxQ := (bPP.cell (p := ⟨g, off + i, none⟩) hgrP).trans cxP
            go_upto_region 13 with fail
            refine wp_specsD (skSp (.agg #[.slice sko G.ks.length skc, .slice sao G.ac.length sac]) (.slice (some ⟨g, off, none⟩) al.length alc) i g off x (isk) (fun w y => IsKT w y (kOf G x))) (GK 17 wP 42 (fun w y => IsKT w y (kOf G x))) (by kernel_rfl) (by kernel_rfl) (by kernel_rfl) (GK.start _ wP) ?_ ?_ ?_
            · intro q o d ho hd L a' w' hL hw hRR hdep hslot hsz K hK
              have hqN : q < 12 := dstOf_lt hd
              have hR := hRR.below
              have HBw := kept_of_below hR HBsQ
              have cb0 : w'.cell? ⟨w2.heap.size, 0, none⟩ = some (.slice sko G.ks.length skc) := by rw [Lib.cell_of_heap HBw]; rfl
              have cb1 : w'.cell? ⟨w2.heap.size, 1, none⟩ = some (.slice sao G.ac.length sac) := by rw [Lib.cell_of_heap HBw]; rfl
              have cx : w'.cell? ⟨g, off + i, none⟩ = some (.string x) := (hR.cell (p := ⟨g, off + i, none⟩) hgrQ).trans cxQ
              clear HBw
              have hs11 : a'.tmps.getD 11 undef = .pointer (some ⟨w2.heap.size, 0, none⟩) := hslot 11 (fun q h => by have hl := dstOf_lt h; match q, hl with | 0, _ => cases h | 1, _ => cases h | 2, _ => cases h | 3, _ => cases h | 4, _ => cases h | 5, _ => cases h | 6, _ => cases h | 7, _ => cases h | 8, _ => cases h | 9, _ => cases h | 10, _ => cases h | 11, _ => cases h)
              have hs13 : a'.tmps.getD 13 undef = .slice (some ⟨g, off, none⟩) al.length alc := hslot 13 (fun q h => by have hl := dstOf_lt h; match q, hl with | 0, _ => cases h | 1, _ => cases h | 2, _ => cases h | 3, _ => cases h | 4, _ => cases h | 5, _ => cases h | 6, _ => cases h | 7, _ => cases h | 8, _ => cases h | 9, _ => cases h | 10, _ => cases h | 11, _ => cases h)
              have hs14 : a'.tmps.getD 14 undef = .int .i64 i := hslot 14 (fun q h => by have hl := dstOf_lt h; match q, hl with | 0, _ => cases h | 1, _ => cases h | 2, _ => cases h | 3, _ => cases h | 4, _ => cases h | 5, _ => cases h | 6, _ => cases h | 7, _ => cases h | 8, _ => cases h | 9, _ => cases h | 10, _ => cases h | 11, _ => cases h)
              have hc : q = 0 ∨ q = 1 ∨ q = 2 ∨ q = 3 ∨ q = 4 ∨ q = 5 ∨ q = 6 ∨ q = 7 ∨ q = 8 ∨ q = 9 ∨ q = 10 ∨ q = 11 := by omega
              rcases hc with rfl | rfl | rfl | rfl | rfl | rfl | rfl | rfl | rfl | rfl | rfl | rfl
              · cases ho
                cases hd
                have e0 := hs11
                clear cx
                unfold Oper.wp
                go_simp
                exact hK _ _ rfl (GK.step (Q := fun w y => IsKT w y (kOf G x)) (s := 17) hQK hRR (Below.refl _ w') 0 72 _ (by decide) (by decide) (by decide)) (fun _ _ h => h)
              · cases ho
                cases hd
                have e0 := hs13
                clear cb0 cb1 cx
                unfold Oper.wp
                go_simp
                exact hK _ _ rfl (GK.step (Q := fun w y => IsKT w y (kOf G x)) (s := 17) hQK hRR (Below.refl _ w') 1 73 _ (by decide) (by decide) (by decide)) (fun _ _ h => h)
              · cases ho
                cases hd
                have e0 := hs14
                clear cb0 cb1 cx
                unfold Oper.wp
                go_simp
                exact hK _ _ rfl (GK.step (Q := fun w y => IsKT w y (kOf G x)) (s := 17) hQK hRR (Below.refl _ w') 2 74 _ (by decide) (by decide) (by decide)) (fun _ _ h => h)
              · cases ho
                cases hd
                have e0 : a'.tmps.getD 73 undef = .slice (some ⟨g, off, none⟩) al.length alc := hdep 1 73 rfl (by kernel_rfl)
                have e0' : a'.tmps[73]?.getD undef = .slice (some ⟨g, off, none⟩) al.length alc := by simpa using e0
                have e1 : a'.tmps.getD 74 undef = .int .i64 i := hdep 2 74 rfl (by kernel_rfl)
                have e1' : a'.tmps[74]?.getD undef = .int .i64 i := by simpa using e1
                clear cb0 cb1 cx
                unfold Oper.wp
                go_simp
                exact hK _ _ rfl (GK.step (Q := fun w y => IsKT w y (kOf G x)) (s := 17) hQK hRR (Below.refl _ w') 3 75 _ (by decide) (by decide) (by decide)) (fun _ _ h => h)
              · cases ho
                cases hd
                have e0 : a'.tmps.getD 75 undef = .pointer (some ⟨g, off + i, none⟩) := hdep 3 75 rfl (by kernel_rfl)
                have e0' : a'.tmps[75]?.getD undef = .pointer (some ⟨g, off + i, none⟩) := by simpa using e0
                clear cb0 cb1
                unfold Oper.wp
                go_simp
                exact hK _ _ rfl (GK.step (Q := fun w y => IsKT w y (kOf G x)) (s := 17) hQK hRR (Below.refl _ w') 4 76 _ (by decide) (by decide) (by decide)) (fun _ _ h => h)
              · cases ho
                cases hd
                have e0 : a'.tmps.getD 72 undef = .agg #[.slice sko G.ks.length skc, .slice sao G.ac.length sac] := hdep 0 72 rfl (by kernel_rfl)
                have e0' : a'.tmps[72]?.getD undef = .agg #[.slice sko G.ks.length skc, .slice sao G.ac.length sac] := by simpa using e0
                have e1 : a'.tmps.getD 76 undef = .string x := hdep 4 76 rfl (by kernel_rfl)
                have e1' : a'.tmps[76]?.getD undef = .string x := by simpa using e1
                clear cb0 cb1 cx
                unfold Oper.wp
                go_simp
                refine ((fun w' hb => CKQ w' (bPP.trans (hb.mono bPP.size))) w' hR).mono ?_
                rintro e w9 ⟨⟨y, rfl, hy⟩, b9⟩
                exact hK _ _ ⟨y, rfl, hy⟩ (GK.step (Q := fun w y => IsKT w y (kOf G x)) (s := 17) hQK hRR b9 5 77 _ (by decide) (by decide) (by decide)) (skSp_up (Q := fun w y => IsKT w y (kOf G x)) hQK (.of_below b9))
              · cases ho
                cases hd
                obtain ⟨y, e1, hy⟩ : skSp (.agg #[.slice sko G.ks.length skc, .slice sao G.ac.length sac]) (.slice (some ⟨g, off, none⟩) al.length alc) i g off x (isk) (fun w y => IsKT w y (kOf G x)) 5 (a'.tmps.getD 77 undef) w' := hdep 5 77 rfl (by kernel_rfl)
                have e1' : a'.tmps[77]?.getD undef = .tuple #[.agg #[.string y.nm, .slice y.ao y.al y.ac, .slice y.bo y.bl y.bc], .bool (isk)] := by simpa using e1
                have Hy := hide hy
                clear hy
                clear cb0 cb1 cx
                unfold Oper.wp
                go_simp
                exact hK _ _ ⟨y, rfl, unhide Hy⟩ (GK.step (Q := fun w y => IsKT w y (kOf G x)) (s := 17) hQK hRR (Below.refl _ w') 6 71 _ (by decide) (by decide) (by decide)) (fun _ _ h => h)
              · cases ho
                cases hd
                obtain ⟨y, e1, hy⟩ : skSp (.agg #[.slice sko G.ks.length skc, .slice sao G.ac.length sac]) (.slice (some ⟨g, off, none⟩) al.length alc) i g off x (isk) (fun w y => IsKT w y (kOf G x)) 6 (a'.tmps.getD 71 undef) w' := hdep 6 71 rfl (by kernel_rfl)
                have e1' : a'.tmps[71]?.getD undef = .tuple #[.agg #[.string y.nm, .slice y.ao y.al y.ac, .slice y.bo y.bl y.bc], .bool (isk)] := by simpa using e1
                have Hy := hide hy
                clear hy
                clear cb0 cb1 cx
                unfold Oper.wp
                go_simp
                exact hK _ _ ⟨y, rfl, unhide Hy⟩ (GK.step (Q := fun w y => IsKT w y (kOf G x)) (s := 17) hQK hRR (Below.refl _ w') 7 78 _ (by decide) (by decide) (by decide)) (fun _ _ h => h)
              · cases ho
                cases hd
                obtain ⟨y, e1, hy⟩ : skSp (.agg #[.slice sko G.ks.length skc, .slice sao G.ac.length sac]) (.slice (some ⟨g, off, none⟩) al.length alc) i g off x (isk) (fun w y => IsKT w y (kOf G x)) 6 (a'.tmps.getD 71 undef) w' := hdep 6 71 rfl (by kernel_rfl)
                have e1' : a'.tmps[71]?.getD undef = .tuple #[.agg #[.string y.nm, .slice y.ao y.al y.ac, .slice y.bo y.bl y.bc], .bool (isk)] := by simpa using e1
                have Hy := hide hy
                clear hy
                clear cb0 cb1 cx
                unfold Oper.wp
                go_simp
                exact hK _ _ rfl (GK.step (Q := fun w y => IsKT w y (kOf G x)) (s := 17) hQK hRR (Below.refl _ w') 8 79 _ (by decide) (by decide) (by decide)) (fun _ _ h => h)
              · cases ho
                cases hd
                clear cb0 cb1 cx
                unfold Oper.wp
                go_simp
                exact hK _ _ trivial (hRR.alloc hL (by rw [hsz]; first | decide | simp)) (skSp_up (Q := fun w y => IsKT w y (kOf G x)) hQK (.of_below (blw1 _ _)))
              · cases hd
              · cases ho
                cases hd
                have e0 : a'.tmps.getD 79 undef = .bool (isk) := hdep 8 79 rfl (by kernel_rfl)
                have e0' : a'.tmps[79]?.getD undef = .bool (isk) := by simpa using e0
                clear cb0 cb1 cx
                unfold Oper.wp
                go_simp
                exact hK _ _ rfl (GK.step (Q := fun w y => IsKT w y (kOf G x)) (s := 17) hQK hRR (Below.refl _ w') 11 18 _ (by decide) (by decide) (by decide)) (fun _ _ h => h)
            · intro q o ho hd L a' w' hL hw hRR hdep K hK
              have hqN : q < 12 := (List.getElem?_eq_some_iff.1 ho).1
              have hR := hRR.below
              have HBw := kept_of_below hR HBsQ
              have cb0 : w'.cell? ⟨w2.heap.size, 0, none⟩ = some (.slice sko G.ks.length skc) := by rw [Lib.cell_of_heap HBw]; rfl
              have cb1 : w'.cell? ⟨w2.heap.size, 1, none⟩ = some (.slice sao G.ac.length sac) := by rw [Lib.cell_of_heap HBw]; rfl
              have cx : w'.cell? ⟨g, off + i, none⟩ = some (.string x) := (hR.cell (p := ⟨g, off + i, none⟩) hgrQ).trans cxQ
              clear HBw
              have hc : q = 0 ∨ q = 1 ∨ q = 2 ∨ q = 3 ∨ q = 4 ∨ q = 5 ∨ q = 6 ∨ q = 7 ∨ q = 8 ∨ q = 9 ∨ q = 10 ∨ q = 11 := by omega
              rcases hc with rfl | rfl | rfl | rfl | rfl | rfl | rfl | rfl | rfl | rfl | rfl | rfl
              · cases hd
              · cases hd
              · cases hd
              · cases hd
              · cases hd
              · cases hd
              · cases hd
              · cases hd
              · cases hd
              · cases hd
              · cases ho
                obtain ⟨y, e1, hy⟩ : skSp (.agg #[.slice sko G.ks.length skc, .slice sao G.ac.length sac]) (.slice (some ⟨g, off, none⟩) al.length alc) i g off x (isk) (fun w y => IsKT w y (kOf G x)) 7 (a'.tmps.getD 78 undef) w' := hdep 7 78 rfl (by kernel_rfl)
                have e1' : a'.tmps[78]?.getD undef = .agg #[.string y.nm, .slice y.ao y.al y.ac, .slice y.bo y.bl y.bc] := by simpa using e1
                have Hy := hide hy
                clear hy
                obtain ⟨V, eV, hVz, hS, hkf⟩ := GK.store (Q := fun w y => IsKT w y (kOf G x)) (.inl rfl) hQK hRR (hw 9 (by kernel_rfl)) hL y (unhide Hy)
                have d0 : w'.cell? ⟨V, 0, none⟩ = some (.string ⟨#[]⟩) := by rw [Lib.cell_of_heap hVz]; rfl
                have d1 : w'.cell? ⟨V, 1, none⟩ = some (.slice none 0 0) := by rw [Lib.cell_of_heap hVz]; rfl
                have d2 : w'.cell? ⟨V, 2, none⟩ = some (.slice none 0 0) := by rw [Lib.cell_of_heap hVz]; rfl
                have df : ∀ o, w'.frozen? ⟨V, o, none⟩ = false := fun o => Lib.frozen_of_heap hVz o
                have HS := hide (And.intro hS hkf)
                clear hVz cb0 cb1 cx hS hkf
                unfold Oper.wp
                go_simp
                exact hK _ (unhide HS).1 (skSp_up (Q := fun w y => IsKT w y (kOf G x)) hQK (unhide HS).2) undef
              · cases hd
            · intro v L w' hLa hRR hv
              have bqQ := hRR.below
              obtain ⟨VQ, yQ, eV, hVw, hVQ, hyQ⟩ := hRR.full (hLa 10 (by decide))
              have f0 : v 0 = _ := (hv 0 72 rfl).1
              have f1 : v 1 = _ := (hv 1 73 rfl).1
              have f2 : v 2 = _ := (hv 2 74 rfl).1
              have f3 : v 3 = _ := (hv 3 75 rfl).1
              have f4 : v 4 = _ := (hv 4 76 rfl).1
              have f8 : v 8 = _ := (hv 8 79 rfl).1
              have f9 : v 9 = .pointer (some ⟨VQ, 0, none⟩) := ((hv 9 17 rfl).2).symm.trans eV
              have f11 : v 11 = .bool (isk) := (hv 11 18 rfl).1
              clear hRR hv hLa eV
              simp only [putAll, dstOf, List.getElem?_cons_zero, List.getElem?_cons_succ, Option.bind_some, List.length_cons, List.length_nil, f0, f1, f2, f3, f4, f8, f9, f11]
              clear f0 f1 f2 f3 f4 f8 f9 f11
              simp only [Act.put, List.setIfInBounds_toArray, List.set_cons_succ, List.set_cons_zero]
              generalize v 5 = v5Q
              generalize v 6 = v6Q
              generalize v 7 = v7Q
              generalize v 10 = v10Q
              obtain ⟨wQ, hwQ⟩ : ∃ q, q = w' := ⟨_, rfl⟩
              subst hwQ
              have bPQ := bPP.trans (bqQ.mono bPP.size)
              have HBsR := kept_of_below bPQ HBsP
              have hgrR : g < wQ.heap.size := by have := bPQ.size; omega
              have cxR := (bPQ.cell (p := ⟨g, off + i, none⟩) hgrP).trans cxP
              go_upto_region 14 with fail
              refine wp_specsD (skSp (.agg #[.slice sko G.ks.length skc, .slice sao G.ac.length sac]) (.slice (some ⟨g, off, none⟩) al.length alc) i g off x (isa) (fun w y => IsAT w y (aOf G x))) (GK 19 wQ 44 (fun w y => IsAT w y (aOf G x))) (by kernel_rfl) (by kernel_rfl) (by kernel_rfl) (GK.start _ wQ) ?_ ?_ ?_
              · intro q o d ho hd L a' w' hL hw hRR hdep hslot hsz K hK
                have hqN : q < 12 := dstOf_lt hd
                have hR := hRR.below
                have HBw := kept_of_below hR HBsR
                have cb0 : w'.cell? ⟨w2.heap.size, 0, none⟩ = some (.slice sko G.ks.length skc) := by rw [Lib.cell_of_heap HBw]; rfl
                have cb1 : w'.cell? ⟨w2.heap.size, 1, none⟩ = some (.slice sao G.ac.length sac) := by rw [Lib.cell_of_heap HBw]; rfl
                have cx : w'.cell? ⟨g, off + i, none⟩ = some (.string x) := (hR.cell (p := ⟨g, off + i, none⟩) hgrR).trans cxR
                clear HBw
                have hs11 : a'.tmps.getD 11 undef = .pointer (some ⟨w2.heap.size, 0, none⟩) := hslot 11 (fun q h => by have hl := dstOf_lt h; match q, hl with | 0, _ => cases h | 1, _ => cases h | 2, _ => cases h | 3, _ => cases h | 4, _ => cases h | 5, _ => cases h | 6, _ => cases h | 7, _ => cases h | 8, _ => cases h | 9, _ => cases h | 10, _ => cases h | 11, _ => cases h)
                have hs13 : a'.tmps.getD 13 undef = .slice (some ⟨g, off, none⟩) al.length alc := hslot 13 (fun q h => by have hl := dstOf_lt h; match q, hl with | 0, _ => cases h | 1, _ => cases h | 2, _ => cases h | 3, _ => cases h | 4, _ => cases h | 5, _ => cases h | 6, _ => cases h | 7, _ => cases h | 8, _ => cases h | 9, _ => cases h | 10, _ => cases h | 11, _ => cases h)
                have hs14 : a'.tmps.getD 14 undef = .int .i64 i := hslot 14 (fun q h => by have hl := dstOf_lt h; match q, hl with | 0, _ => cases h | 1, _ => cases h | 2, _ => cases h | 3, _ => cases h | 4, _ => cases h | 5, _ => cases h | 6, _ => cases h | 7, _ => cases h | 8, _ => cases h | 9, _ => cases h | 10, _ => cases h | 11, _ => cases h)
                have hc : q = 0 ∨ q = 1 ∨ q = 2 ∨ q = 3 ∨ q = 4 ∨ q = 5 ∨ q = 6 ∨ q = 7 ∨ q = 8 ∨ q = 9 ∨ q = 10 ∨ q = 11 := by omega
                rcases hc with rfl | rfl | rfl | rfl | rfl | rfl | rfl | rfl | rfl | rfl | rfl | rfl
                · cases ho
                  cases hd
                  have e0 := hs11
                  clear cx
                  unfold Oper.wp
                  go_simp
                  exact hK _ _ rfl (GK.step (Q := fun w y => IsAT w y (aOf G x)) (s := 19) hQA hRR (Below.refl _ w') 0 81 _ (by decide) (by decide) (by decide)) (fun _ _ h => h)
                · cases ho
                  cases hd
                  have e0 := hs13
                  clear cb0 cb1 cx
                  unfold Oper.wp
                  go_simp
                  exact hK _ _ rfl (GK.step (Q := fun w y => IsAT w y (aOf G x)) (s := 19) hQA hRR (Below.refl _ w') 1 82 _ (by decide) (by decide) (by decide)) (fun _ _ h => h)
                · cases ho
                  cases hd
                  have e0 := hs14
                  clear cb0 cb1 cx
                  unfold Oper.wp
                  go_simp
                  exact hK _ _ rfl (GK.step (Q := fun w y => IsAT w y (aOf G x)) (s := 19) hQA hRR (Below.refl _ w') 2 83 _ (by decide) (by decide) (by decide)) (fun _ _ h => h)
                · cases ho
                  cases hd
                  have e0 : a'.tmps.getD 82 undef = .slice (some ⟨g, off, none⟩) al.length alc := hdep 1 82 rfl (by kernel_rfl)
                  have e0' : a'.tmps[82]?.getD undef = .slice (some ⟨g, off, none⟩) al.length alc := by simpa using e0
                  have e1 : a'.tmps.getD 83 undef = .int .i64 i := hdep 2 83 rfl (by kernel_rfl)
                  have e1' : a'.tmps[83]?.getD undef = .int .i64 i := by simpa using e1
                  clear cb0 cb1 cx
                  unfold Oper.wp
                  go_simp
                  exact hK _ _ rfl (GK.step (Q := fun w y => IsAT w y (aOf G x)) (s := 19) hQA hRR (Below.refl _ w') 3 84 _ (by decide) (by decide) (by decide)) (fun _ _ h => h)
                · cases ho
                  cases hd
                  have e0 : a'.tmps.getD 84 undef = .pointer (some ⟨g, off + i, none⟩) := hdep 3 84 rfl (by kernel_rfl)
                  have e0' : a'.tmps[84]?.getD undef = .pointer (some ⟨g, off + i, none⟩) := by simpa using e0
                  clear cb0 cb1
                  unfold Oper.wp
                  go_simp
                  exact hK _ _ rfl (GK.step (Q := fun w y => IsAT w y (aOf G x)) (s := 19) hQA hRR (Below.refl _ w') 4 85 _ (by decide) (by decide) (by decide)) (fun _ _ h => h)
                · cases ho
                  cases hd
                  have e0 : a'.tmps.getD 81 undef = .agg #[.slice sko G.ks.length skc, .slice sao G.ac.length sac] := hdep 0 81 rfl (by kernel_rfl)
                  have e0' : a'.tmps[81]?.getD undef = .agg #[.slice sko G.ks.length skc, .slice sao G.ac.length sac] := by simpa using e0
                  have e1 : a'.tmps.getD 85 undef = .string x := hdep 4 85 rfl (by kernel_rfl)
                  have e1' : a'.tmps[85]?.getD undef = .string x := by simpa using e1
                  clear cb0 cb1 cx
                  unfold Oper.wp
                  go_simp
                  refine ((fun w' hb => CAR w' (bPQ.trans (hb.mono bPQ.size))) w' hR).mono ?_
                  rintro e w9 ⟨⟨y, rfl, hy⟩, b9⟩
                  exact hK _ _ ⟨y, rfl, hy⟩ (GK.step (Q := fun w y => IsAT w y (aOf G x)) (s := 19) hQA hRR b9 5 86 _ (by decide) (by decide) (by decide)) (skSp_up (Q := fun w y => IsAT w y (aOf G x)) hQA (.of_below b9))
                · cases ho
                  cases hd
                  obtain ⟨y, e1, hy⟩ : skSp (.agg #[.slice sko G.ks.length skc, .slice sao G.ac.length sac]) (.slice (some ⟨g, off, none⟩) al.length alc) i g off x (isa) (fun w y => IsAT w y (aOf G x)) 5 (a'.tmps.getD 86 undef) w' := hdep 5 86 rfl (by kernel_rfl)
                  have e1' : a'.tmps[86]?.getD undef = .tuple #[.agg #[.string y.nm, .slice y.ao y.al y.ac, .slice y.bo y.bl y.bc], .bool (isa)] := by simpa using e1
                  have Hy := hide hy
                  clear hy
                  clear cb0 cb1 cx
                  unfold Oper.wp
                  go_simp
                  exact hK _ _ ⟨y, rfl, unhide Hy⟩ (GK.step (Q := fun w y => IsAT w y (aOf G x)) (s := 19) hQA hRR (Below.refl _ w') 6 80 _ (by decide) (by decide) (by decide)) (fun _ _ h => h)
                · cases ho
                  cases hd
                  obtain ⟨y, e1, hy⟩ : skSp (.agg #[.slice sko G.ks.length skc, .slice sao G.ac.length sac]) (.slice (some ⟨g, off, none⟩) al.length alc) i g off x (isa) (fun w y => IsAT w y (aOf G x)) 6 (a'.tmps.getD 80 undef) w' := hdep 6 80 rfl (by kernel_rfl)
                  have e1' : a'.tmps[80]?.getD undef = .tuple #[.agg #[.string y.nm, .slice y.ao y.al y.ac, .slice y.bo y.bl y.bc], .bool (isa)] := by simpa using e1
                  have Hy := hide hy
                  clear hy
                  clear cb0 cb1 cx
                  unfold Oper.wp
                  go_simp
                  exact hK _ _ ⟨y, rfl, unhide Hy⟩ (GK.step (Q := fun w y => IsAT w y (aOf G x)) (s := 19) hQA hRR (Below.refl _ w') 7 87 _ (by decide) (by decide) (by decide)) (fun _ _ h => h)
                · cases ho
                  cases hd
                  obtain ⟨y, e1, hy⟩ : skSp (.agg #[.slice sko G.ks.length skc, .slice sao G.ac.length sac]) (.slice (some ⟨g, off, none⟩) al.length alc) i g off x (isa) (fun w y => IsAT w y (aOf G x)) 6 (a'.tmps.getD 80 undef) w' := hdep 6 80 rfl (by kernel_rfl)
                  have e1' : a'.tmps[80]?.getD undef = .tuple #[.agg #[.string y.nm, .slice y.ao y.al y.ac, .slice y.bo y.bl y.bc], .bool (isa)] := by simpa using e1
                  have Hy := hide hy
                  clear hy
                  clear cb0 cb1 cx
                  unfold Oper.wp
                  go_simp
                  exact hK _ _ rfl (GK.step (Q := fun w y => IsAT w y (aOf G x)) (s := 19) hQA hRR (Below.refl _ w') 8 88 _ (by decide) (by decide) (by decide)) (fun _ _ h => h)
                · cases ho
                  cases hd
                  clear cb0 cb1 cx
                  unfold Oper.wp
                  go_simp
                  exact hK _ _ trivial (hRR.alloc hL (by rw [hsz]; first | decide | simp)) (skSp_up (Q := fun w y => IsAT w y (aOf G x)) hQA (.of_below (blw1 _ _)))
                · cases hd
                · cases ho
                  cases hd
                  have e0 : a'.tmps.getD 88 undef = .bool (isa) := hdep 8 88 rfl (by kernel_rfl)
                  have e0' : a'.tmps[88]?.getD undef = .bool (isa) := by simpa using e0
                  clear cb0 cb1 cx
                  unfold Oper.wp
                  go_simp
                  exact hK _ _ rfl (GK.step (Q := fun w y => IsAT w y (aOf G x)) (s := 19) hQA hRR (Below.refl _ w') 11 20 _ (by decide) (by decide) (by decide)) (fun _ _ h => h)
              · intro q o ho hd L a' w' hL hw hRR hdep K hK
                have hqN : q < 12 := (List.getElem?_eq_some_iff.1 ho).1
                have hR := hRR.below
                have HBw := kept_of_below hR HBsR
                have cb0 : w'.cell? ⟨w2.heap.size, 0, none⟩ = some (.slice sko G.ks.length skc) := by rw [Lib.cell_of_heap HBw]; rfl
                have cb1 : w'.cell? ⟨w2.heap.size, 1, none⟩ = some (.slice sao G.ac.length sac) := by rw [Lib.cell_of_heap HBw]; rfl
                have cx : w'.cell? ⟨g, off + i, none⟩ = some (.string x) := (hR.cell (p := ⟨g, off + i, none⟩) hgrR).trans cxR
                clear HBw
                have hc : q = 0 ∨ q = 1 ∨ q = 2 ∨ q = 3 ∨ q = 4 ∨ q = 5 ∨ q = 6 ∨ q = 7 ∨ q = 8 ∨ q = 9 ∨ q = 10 ∨ q = 11 := by omega
                rcases hc with rfl | rfl | rfl | rfl | rfl | rfl | rfl | rfl | rfl | rfl | rfl | rfl
                · cases hd
                · cases hd
                · cases hd
                · cases hd
                · cases hd
                · cases hd
                · cases hd
                · cases hd
                · cases hd
                · cases hd
                · cases ho
                  obtain ⟨y, e1, hy⟩ : skSp (.agg #[.slice sko G.ks.length skc, .slice sao G.ac.length sac]) (.slice (some ⟨g, off, none⟩) al.length alc) i g off x (isa) (fun w y => IsAT w y (aOf G x)) 7 (a'.tmps.getD 87 undef) w' := hdep 7 87 rfl (by kernel_rfl)
                  have e1' : a'.tmps[87]?.getD undef = .agg #[.string y.nm, .slice y.ao y.al y.ac, .slice y.bo y.bl y.bc] := by simpa using e1
                  have Hy := hide hy
                  clear hy
                  obtain ⟨V, eV, hVz, hS, hkf⟩ := GK.store (Q := fun w y => IsAT w y (aOf G x)) (.inr rfl) hQA hRR (hw 9 (by kernel_rfl)) hL y (unhide Hy)
                  have d0 : w'.cell? ⟨V, 0, none⟩ = some (.string ⟨#[]⟩) := by rw [Lib.cell_of_heap hVz]; rfl
                  have d1 : w'.cell? ⟨V, 1, none⟩ = some (.slice none 0 0) := by rw [Lib.cell_of_heap hVz]; rfl
                  have d2 : w'.cell? ⟨V, 2, none⟩ = some (.slice none 0 0) := by rw [Lib.cell_of_heap hVz]; rfl
                  have df : ∀ o, w'.frozen? ⟨V, o, none⟩ = false := fun o => Lib.frozen_of_heap hVz o
                  have HS := hide (And.intro hS hkf)
                  clear hVz cb0 cb1 cx hS hkf
                  unfold Oper.wp
                  go_simp
                  exact hK _ (unhide HS).1 (skSp_up (Q := fun w y => IsAT w y (aOf G x)) hQA (unhide HS).2) undef
                · cases hd
              · intro v L w' hLa hRR hv
                have bqR := hRR.below
                obtain ⟨VR, yR, eV, hVw, hVR, hyR⟩ := hRR.full (hLa 10 (by decide))
                have f0 : v 0 = _ := (hv 0 81 rfl).1
                have f1 : v 1 = _ := (hv 1 82 rfl).1
                have f2 : v 2 = _ := (hv 2 83 rfl).1
                have f3 : v 3 = _ := (hv 3 84 rfl).1
                have f4 : v 4 = _ := (hv 4 85 rfl).1
                have f8 : v 8 = _ := (hv 8 88 rfl).1
                have f9 : v 9 = .pointer (some ⟨VR, 0, none⟩) := ((hv 9 19 rfl).2).symm.trans eV
                have f11 : v 11 = .bool (isa) := (hv 11 20 rfl).1
                clear hRR hv hLa eV
                simp only [putAll, dstOf, List.getElem?_cons_zero, List.getElem?_cons_succ, Option.bind_some, List.length_cons, List.length_nil, f0, f1, f2, f3, f4, f8, f9, f11]
                clear f0 f1 f2 f3 f4 f8 f9 f11
                simp only [Act.put, List.setIfInBounds_toArray, List.set_cons_succ, List.set_cons_zero]
                generalize v 5 = v5R
                generalize v 6 = v6R
                generalize v 7 = v7R
                generalize v 10 = v10R
                obtain ⟨wR, hwR⟩ : ∃ q, q = w' := ⟨_, rfl⟩
                subst hwR
                have bPR := bPQ.trans (bqR.mono bPQ.size)
                have HBsS := kept_of_below bPR HBsP
                have hgrS : g < wR.heap.size := by have := bPR.size; omega
                have cxS := (bPR.cell (p := ⟨g, off + i, none⟩) hgrP).trans cxP
                go_upto_region 15 with fail
                refine wp_specsD (skSp (.agg #[.slice sko G.ks.length skc, .slice sao G.ac.length sac]) (.slice (some ⟨g, off, none⟩) al.length alc) i g off x (isa) (fun w y => IsAT w y (aOf G x))) (GK 21 wR 44 (fun w y => IsAT w y (aOf G x))) (by kernel_rfl) (by kernel_rfl) (by kernel_rfl) (GK.start _ wR) ?_ ?_ ?_
                · intro q o d ho hd L a' w' hL hw hRR hdep hslot hsz K hK
                  have hqN : q < 12 := dstOf_lt hd
                  have hR := hRR.below
                  have HBw := kept_of_below hR HBsS
                  have cb0 : w'.cell? ⟨w2.heap.size, 0, none⟩ = some (.slice sko G.ks.length skc) := by rw [Lib.cell_of_heap HBw]; rfl
                  have cb1 : w'.cell? ⟨w2.heap.size, 1, none⟩ = some (.slice sao G.ac.length sac) := by rw [Lib.cell_of_heap HBw]; rfl
                  have cx : w'.cell? ⟨g, off + i, none⟩ = some (.string x) := (hR.cell (p := ⟨g, off + i, none⟩) hgrS).trans cxS
                  clear HBw
                  have hs11 : a'.tmps.getD 11 undef = .pointer (some ⟨w2.heap.size, 0, none⟩) := hslot 11 (fun q h => by have hl := dstOf_lt h; match q, hl with | 0, _ => cases h | 1, _ => cases h | 2, _ => cases h | 3, _ => cases h | 4, _ => cases h | 5, _ => cases h | 6, _ => cases h | 7, _ => cases h | 8, _ => cases h | 9, _ => cases h | 10, _ => cases h | 11, _ => cases h)
                  have hs13 : a'.tmps.getD 13 undef = .slice (some ⟨g, off, none⟩) al.length alc := hslot 13 (fun q h => by have hl := dstOf_lt h; match q, hl with | 0, _ => cases h | 1, _ => cases h | 2, _ => cases h | 3, _ => cases h | 4, _ => cases h | 5, _ => cases h | 6, _ => cases h | 7, _ => cases h | 8, _ => cases h | 9, _ => cases h | 10, _ => cases h | 11, _ => cases h)
                  have hs14 : a'.tmps.getD 14 undef = .int .i64 i := hslot 14 (fun q h => by have hl := dstOf_lt h; match q, hl with | 0, _ => cases h | 1, _ => cases h | 2, _ => cases h | 3, _ => cases h | 4, _ => cases h | 5, _ => cases h | 6, _ => cases h | 7, _ => cases h | 8, _ => cases h | 9, _ => cases h | 10, _ => cases h | 11, _ => cases h)
                  have hc : q = 0 ∨ q = 1 ∨ q = 2 ∨ q = 3 ∨ q = 4 ∨ q = 5 ∨ q = 6 ∨ q = 7 ∨ q = 8 ∨ q = 9 ∨ q = 10 ∨ q = 11 := by omega
                  rcases hc with rfl | rfl | rfl | rfl | rfl | rfl | rfl | rfl | rfl | rfl | rfl | rfl
                  · cases ho
                    cases hd
                    have e0 := hs11
                    clear cx
                    unfold Oper.wp
                    go_simp
                    exact hK _ _ rfl (GK.step (Q := fun w y => IsAT w y (aOf G x)) (s := 21) hQA hRR (Below.refl _ w') 0 90 _ (by decide) (by decide) (by decide)) (fun _ _ h => h)
                  · cases ho
                    cases hd
                    have e0 := hs13
                    clear cb0 cb1 cx
                    unfold Oper.wp
                    go_simp
                    exact hK _ _ rfl (GK.step (Q := fun w y => IsAT w y (aOf G x)) (s := 21) hQA hRR (Below.refl _ w') 1 91 _ (by decide) (by decide) (by decide)) (fun _ _ h => h)
                  · cases ho
                    cases hd
                    have e0 := hs14
                    clear cb0 cb1 cx
                    unfold Oper.wp
                    go_simp
                    exact hK _ _ rfl (GK.step (Q := fun w y => IsAT w y (aOf G x)) (s := 21) hQA hRR (Below.refl _ w') 2 92 _ (by decide) (by decide) (by decide)) (fun _ _ h => h)
                  · cases ho
                    cases hd
                    have e0 : a'.tmps.getD 91 undef = .slice (some ⟨g, off, none⟩) al.length alc := hdep 1 91 rfl (by kernel_rfl)
                    have e0' : a'.tmps[91]?.getD undef = .slice (some ⟨g, off, none⟩) al.length alc := by simpa using e0
                    have e1 : a'.tmps.getD 92 undef = .int .i64 i := hdep 2 92 rfl (by kernel_rfl)
                    have e1' : a'.tmps[92]?.getD undef = .int .i64 i := by simpa using e1
                    clear cb0 cb1 cx
                    unfold Oper.wp
                    go_simp
                    exact hK _ _ rfl (GK.step (Q := fun w y => IsAT w y (aOf G x)) (s := 21) hQA hRR (Below.refl _ w') 3 93 _ (by decide) (by decide) (by decide)) (fun _ _ h => h)
                  · cases ho
                    cases hd
                    have e0 : a'.tmps.getD 93 undef = .pointer (some ⟨g, off + i, none⟩) := hdep 3 93 rfl (by kernel_rfl)
                    have e0' : a'.tmps[93]?.getD undef = .pointer (some ⟨g, off + i, none⟩) := by simpa using e0
                    clear cb0 cb1
                    unfold Oper.wp
                    go_simp
                    exact hK _ _ rfl (GK.step (Q := fun w y => IsAT w y (aOf G x)) (s := 21) hQA hRR (Below.refl _ w') 4 94 _ (by decide) (by decide) (by decide)) (fun _ _ h => h)
                  · cases ho
                    cases hd
                    have e0 : a'.tmps.getD 90 undef = .agg #[.slice sko G.ks.length skc, .slice sao G.ac.length sac] := hdep 0 90 rfl (by kernel_rfl)
                    have e0' : a'.tmps[90]?.getD undef = .agg #[.slice sko G.ks.length skc, .slice sao G.ac.length sac] := by simpa using e0
                    have e1 : a'.tmps.getD 94 undef = .string x := hdep 4 94 rfl (by kernel_rfl)
                    have e1' : a'.tmps[94]?.getD undef = .string x := by simpa using e1
                    clear cb0 cb1 cx
                    unfold Oper.wp
                    go_simp
                    refine ((fun w' hb => CAS w' (bPR.trans (hb.mono bPR.size))) w' hR).mono ?_
                    rintro e w9 ⟨⟨y, rfl, hy⟩, b9⟩
                    exact hK _ _ ⟨y, rfl, hy⟩ (GK.step (Q := fun w y => IsAT w y (aOf G x)) (s := 21) hQA hRR b9 5 95 _ (by decide) (by decide) (by decide)) (skSp_up (Q := fun w y => IsAT w y (aOf G x)) hQA (.of_below b9))
                  · cases ho
                    cases hd
                    obtain ⟨y, e1, hy⟩ : skSp (.agg #[.slice sko G.ks.length skc, .slice sao G.ac.length sac]) (.slice (some ⟨g, off, none⟩) al.length alc) i g off x (isa) (fun w y => IsAT w y (aOf G x)) 5 (a'.tmps.getD 95 undef) w' := hdep 5 95 rfl (by kernel_rfl)
                    have e1' : a'.tmps[95]?.getD undef = .tuple #[.agg #[.string y.nm, .slice y.ao y.al y.ac, .slice y.bo y.bl y.bc], .bool (isa)] := by simpa using e1
                    have Hy := hide hy
                    clear hy
                    clear cb0 cb1 cx
                    unfold Oper.wp
                    go_simp
                    exact hK _ _ ⟨y, rfl, unhide Hy⟩ (GK.step (Q := fun w y => IsAT w y (aOf G x)) (s := 21) hQA hRR (Below.refl _ w') 6 89 _ (by decide) (by decide) (by decide)) (fun _ _ h => h)
                  · cases ho
                    cases hd
                    obtain ⟨y, e1, hy⟩ : skSp (.agg #[.slice sko G.ks.length skc, .slice sao G.ac.length sac]) (.slice (some ⟨g, off, none⟩) al.length alc) i g off x (isa) (fun w y => IsAT w y (aOf G x)) 6 (a'.tmps.getD 89 undef) w' := hdep 6 89 rfl (by kernel_rfl)
                    have e1' : a'.tmps[89]?.getD undef = .tuple #[.agg #[.string y.nm, .slice y.ao y.al y.ac, .slice y.bo y.bl y.bc], .bool (isa)] := by simpa using e1
                    have Hy := hide hy
                    clear hy
                    clear cb0 cb1 cx
                    unfold Oper.wp
                    go_simp
                    exact hK _ _ ⟨y, rfl, unhide Hy⟩ (GK.step (Q := fun w y => IsAT w y (aOf G x)) (s := 21) hQA hRR (Below.refl _ w') 7 96 _ (by decide) (by decide) (by decide)) (fun _ _ h => h)
                  · cases ho
                    cases hd
                    obtain ⟨y, e1, hy⟩ : skSp (.agg #[.slice sko G.ks.length skc, .slice sao G.ac.length sac]) (.slice (some ⟨g, off, none⟩) al.length alc) i g off x (isa) (fun w y => IsAT w y (aOf G x)) 6 (a'.tmps.getD 89 undef) w' := hdep 6 89 rfl (by kernel_rfl)
                    have e1' : a'.tmps[89]?.getD undef = .tuple #[.agg #[.string y.nm, .slice y.ao y.al y.ac, .slice y.bo y.bl y.bc], .bool (isa)] := by simpa using e1
                    have Hy := hide hy
                    clear hy
                    clear cb0 cb1 cx
                    unfold Oper.wp
                    go_simp
                    exact hK _ _ rfl (GK.step (Q := fun w y => IsAT w y (aOf G x)) (s := 21) hQA hRR (Below.refl _ w') 8 97 _ (by decide) (by decide) (by decide)) (fun _ _ h => h)
                  · cases ho
                    cases hd
                    clear cb0 cb1 cx
                    unfold Oper.wp
                    go_simp
                    exact hK _ _ trivial (hRR.alloc hL (by rw [hsz]; first | decide | simp)) (skSp_up (Q := fun w y => IsAT w y (aOf G x)) hQA (.of_below (blw1 _ _)))
                  · cases hd
                  · cases ho
                    cases hd
                    have e0 : a'.tmps.getD 97 undef = .bool (isa) := hdep 8 97 rfl (by kernel_rfl)
                    have e0' : a'.tmps[97]?.getD undef = .bool (isa) := by simpa using e0
                    clear cb0 cb1 cx
                    unfold Oper.wp
                    go_simp
                    exact hK _ _ rfl (GK.step (Q := fun w y => IsAT w y (aOf G x)) (s := 21) hQA hRR (Below.refl _ w') 11 22 _ (by decide) (by decide) (by decide)) (fun _ _ h => h)
                · intro q o ho hd L a' w' hL hw hRR hdep K hK
                  have hqN : q < 12 := (List.getElem?_eq_some_iff.1 ho).1
                  have hR := hRR.below
                  have HBw := kept_of_below hR HBsS
                  have cb0 : w'.cell? ⟨w2.heap.size, 0, none⟩ = some (.slice sko G.ks.length skc) := by rw [Lib.cell_of_heap HBw]; rfl
                  have cb1 : w'.cell? ⟨w2.heap.size, 1, none⟩ = some (.slice sao G.ac.length sac) := by rw [Lib.cell_of_heap HBw]; rfl
                  have cx : w'.cell? ⟨g, off + i, none⟩ = some (.string x) := (hR.cell (p := ⟨g, off + i, none⟩) hgrS).trans cxS
                  clear HBw
                  have hc : q = 0 ∨ q = 1 ∨ q = 2 ∨ q = 3 ∨ q = 4 ∨ q = 5 ∨ q = 6 ∨ q = 7 ∨ q = 8 ∨ q = 9 ∨ q = 10 ∨ q = 11 := by omega
                  rcases hc with rfl | rfl | rfl | rfl | rfl | rfl | rfl | rfl | rfl | rfl | rfl | rfl
                  · cases hd
                  · cases hd
                  · cases hd
                  · cases hd
                  · cases hd
                  · cases hd
                  · cases hd
                  · cases hd
                  · cases hd
                  · cases hd
                  · cases ho
                    obtain ⟨y, e1, hy⟩ : skSp (.agg #[.slice sko G.ks.length skc, .slice sao G.ac.length sac]) (.slice (some ⟨g, off, none⟩) al.length alc) i g off x (isa) (fun w y => IsAT w y (aOf G x)) 7 (a'.tmps.getD 96 undef) w' := hdep 7 96 rfl (by kernel_rfl)
                    have e1' : a'.tmps[96]?.getD undef = .agg #[.string y.nm, .slice y.ao y.al y.ac, .slice y.bo y.bl y.bc] := by simpa using e1
                    have Hy := hide hy
                    clear hy
                    obtain ⟨V, eV, hVz, hS, hkf⟩ := GK.store (Q := fun w y => IsAT w y (aOf G x)) (.inr rfl) hQA hRR (hw 9 (by kernel_rfl)) hL y (unhide Hy)
                    have d0 : w'.cell? ⟨V, 0, none⟩ = some (.string ⟨#[]⟩) := by rw [Lib.cell_of_heap hVz]; rfl
                    have d1 : w'.cell? ⟨V, 1, none⟩ = some (.slice none 0 0) := by rw [Lib.cell_of_heap hVz]; rfl
                    have d2 : w'.cell? ⟨V, 2, none⟩ = some (.slice none 0 0) := by rw [Lib.cell_of_heap hVz]; rfl
                    have df : ∀ o, w'.frozen? ⟨V, o, none⟩ = false := fun o => Lib.frozen_of_heap hVz o
                    have HS := hide (And.intro hS hkf)
                    clear hVz cb0 cb1 cx hS hkf
                    unfold Oper.wp
                    go_simp
                    exact hK _ (unhide HS).1 (skSp_up (Q := fun w y => IsAT w y (aOf G x)) hQA (unhide HS).2) undef
                  · cases hd
                · intro v L w' hLa hRR hv
                  have bqS := hRR.below
                  obtain ⟨VS, yS, eV, hVw, hVS, hyS⟩ := hRR.full (hLa 10 (by decide))
                  have f0 : v 0 = _ := (hv 0 90 rfl).1
                  have f1 : v 1 = _ := (hv 1 91 rfl).1
                  have f2 : v 2 = _ := (hv 2 92 rfl).1
                  have f3 : v 3 = _ := (hv 3 93 rfl).1
                  have f4 : v 4 = _ := (hv 4 94 rfl).1
                  have f8 : v 8 = _ := (hv 8 97 rfl).1
                  have f9 : v 9 = .pointer (some ⟨VS, 0, none⟩) := ((hv 9 21 rfl).2).symm.trans eV
                  have f11 : v 11 = .bool (isa) := (hv 11 22 rfl).1
                  clear hRR hv hLa eV
                  simp only [putAll, dstOf, List.getElem?_cons_zero, List.getElem?_cons_succ, Option.bind_some, List.length_cons, List.length_nil, f0, f1, f2, f3, f4, f8, f9, f11]
                  clear f0 f1 f2 f3 f4 f8 f9 f11
                  simp only [Act.put, List.setIfInBounds_toArray, List.set_cons_succ, List.set_cons_zero]
                  generalize v 5 = v5S
                  generalize v 6 = v6S
                  generalize v 7 = v7S
                  generalize v 10 = v10S
                  obtain ⟨wS, hwS⟩ : ∃ q, q = w' := ⟨_, rfl⟩
                  subst hwS
                  have bQS := bqR.trans (bqS.mono bqR.size)
                  have bPS := bqQ.trans (bQS.mono bqQ.size)
                  have brS := bPR.trans (bqS.mono bPR.size)
                  have hVP := kept_of_below bPS hVP
                  have hyP := hyP.turn (.of_below bPS)
                  have hVQ := kept_of_below bQS hVQ
                  have hyQ := hyQ.turn (.of_below bQS)
                  have hVR := kept_of_below bqS hVR
                  have hyR := hyR.turn (.of_below bqS)
                  have lVP := (Array.getElem?_eq_some_iff.1 hVP).1
                  have lVQ := (Array.getElem?_eq_some_iff.1 hVQ).1
                  have lVR := (Array.getElem?_eq_some_iff.1 hVR).1
                  have lVS := (Array.getElem?_eq_some_iff.1 hVS).1
                  have VP0 : wS.cell? ⟨VP, 0, none⟩ = some (.string yP.nm) := by rw [Lib.cell_of_heap hVP]; rfl
                  have VP1 : wS.cell? ⟨VP, 1, none⟩ = some (.slice yP.ao yP.al yP.ac) := by rw [Lib.cell_of_heap hVP]; rfl
                  have VP2 : wS.cell? ⟨VP, 2, none⟩ = some (.slice yP.bo yP.bl yP.bc) := by rw [Lib.cell_of_heap hVP]; rfl
                  have VQ0 : wS.cell? ⟨VQ, 0, none⟩ = some (.string yQ.nm) := by rw [Lib.cell_of_heap hVQ]; rfl
                  have VQ1 : wS.cell? ⟨VQ, 1, none⟩ = some (.slice yQ.ao yQ.al yQ.ac) := by rw [Lib.cell_of_heap hVQ]; rfl
                  have VQ2 : wS.cell? ⟨VQ, 2, none⟩ = some (.slice yQ.bo yQ.bl yQ.bc) := by rw [Lib.cell_of_heap hVQ]; rfl
                  have VR0 : wS.cell? ⟨VR, 0, none⟩ = some (.string yR.nm) := by rw [Lib.cell_of_heap hVR]; rfl
                  have VR1 : wS.cell? ⟨VR, 1, none⟩ = some (.slice yR.ao yR.al yR.ac) := by rw [Lib.cell_of_heap hVR]; rfl
                  have VR2 : wS.cell? ⟨VR, 2, none⟩ = some (.slice yR.bo yR.bl yR.bc) := by rw [Lib.cell_of_heap hVR]; rfl
                  have VS0 : wS.cell? ⟨VS, 0, none⟩ = some (.string yS.nm) := by rw [Lib.cell_of_heap hVS]; rfl
                  have VS1 : wS.cell? ⟨VS, 1, none⟩ = some (.slice yS.ao yS.al yS.ac) := by rw [Lib.cell_of_heap hVS]; rfl
                  have VS2 : wS.cell? ⟨VS, 2, none⟩ = some (.slice yS.bo yS.bl yS.bc) := by rw [Lib.cell_of_heap hVS]; rfl
                  obtain ⟨bX, zX, k1, k2, k3, k4⟩ := alloc4 wS (.cells #[.string yP.nm, .slice yP.ao yP.al yP.ac, .slice yP.bo yP.bl yP.bc] 42) (.cells #[.string yR.nm, .slice yR.ao yR.al yR.ac, .slice yR.bo yR.bl yR.bc] 44) (.cells #[.string yQ.nm, .slice yQ.ao yQ.al yQ.ac, .slice yQ.bo yQ.bl yQ.bc] 42) (.cells #[.string yS.nm, .slice yS.ao yS.al yS.ac, .slice yS.bo yS.bl yS.bc] 44)
                  have CSS := rSame_any ⟨[kOf G x], [aOf G x]⟩ ⟨[kOf G x], [aOf G x]⟩ _ _ _ (small_one hsmG x) (isS_one k1 k2 (hyP.is.below bX) (hyR.is.below bX)) (isS_one k3 k4 (hyQ.is.below bX) (hyS.is.below bX))
                  rw [decide_eq_true rfl] at CSS
                  clear hVP hVQ hVR hVS hyP hyQ hyR hyS k1 k2 k3 k4 CKP CKQ CAR CAS hQK hQA
                  obtain ⟨b3X, _⟩ := alloc3 wS (.cells #[.string yP.nm, .slice yP.ao yP.al yP.ac, .slice yP.bo yP.bl yP.bc] 42) (.cells #[.string yR.nm, .slice yR.ao yR.al yR.ac, .slice yR.bo yR.bl yR.bc] 44) (.cells #[.string yQ.nm, .slice yQ.ao yQ.al yQ.ac, .slice yQ.bo yQ.bl yQ.bc] 42)
                  have VT0 := (b3X.cell (p := ⟨VS, 0, none⟩) lVS).trans VS0
                  have VT1 := (b3X.cell (p := ⟨VS, 1, none⟩) lVS).trans VS1
                  have VT2 := (b3X.cell (p := ⟨VS, 2, none⟩) lVS).trans VS2
                  clear b3X
                  have isk1 : (isk != isk) = false := by simp
                  have isa1 : (isa != isa) = false := by simp
                  have isk2 : (isk == isk) = true := by simp
                  have isa2 : (isa == isa) = true := by simp
                  go_wp2_with fail
                  generalize (((wS.alloc _).alloc _).alloc _).alloc _ = wX at *
                  refine CSS.mono ?_
                  clear CSS
                  rintro e wT ⟨rfl, bT⟩
                  have brT := brS.trans ((bX.trans (bT.mono bX.size)).mono brS.size)
                  have b1T := b1L.trans ((hbr.trans (brT.mono hbr.size)).mono b1L.size)
                  have HBsT := kept_of_below brT HBsP
                  have hgrT : g < wT.heap.size := by have := brT.size; omega
                  have cxT := (brT.cell (p := ⟨g, off + i, none⟩) hgrP).trans cxP
                  clear VT0 VT1 VT2 VP0 VP1 VP2 VQ0 VQ1 VQ2 VR0 VR1 VR2 VS0 VS1 VS2 bX bPS bQS brS HBsQ HBsR HBsS cxQ cxR cxS
                  go_wp2_with fail
                  go_loopw [23] (fun jv wr => ∃ j : Nat, jv = .int .i64 j ∧ j ≤ G.ks.length ∧ Below wT.heap.size wT wr) (fun jv _ => G.ks.length - (intOf jv).toNat)
                  case atStart => exact ⟨0, by go_num, Nat.zero_le _, Below.refl _ _⟩
                  case round =>
                    rename World => wj
                    obtain ⟨j, rfl, hjl, hbj⟩ := hrel
                    have HBF := kept_of_below hbj HBsT
                    have sc : wj.cell? ⟨w2.heap.size, 0, none⟩ = some (.slice sko G.ks.length skc) := by rw [Lib.cell_of_heap HBF]; rfl
                    by_cases hjt : j < G.ks.length
                    · have j0 : (0 : Int) ≤ (j : Int) := by omega
                      have j1 : (j : Int) < (G.ks.length : Int) := by omega
                      have j20 : G.ks.length ≤ 20 := hfewG.ks
                      have b1j := b1T.trans (hbj.mono b1T.size)
                      obtain ⟨kx, kb, ko_, rfl, hkb0, ⟨n0F, n1F, n2F⟩, hIK⟩ := (unhide HKs).get b1j hjt
                      have hkbF : kb < wj.heap.size := by have := b1j.size; omega
                      have hgF : g < wj.heap.size := by have := hbj.size; omega
                      have cxF := (hbj.cell (p := ⟨g, off + i, none⟩) hgrT).trans cxT
                      have hfl := (hsmK G.ks[j] (List.getElem_mem hjt)).2
                      have CF1 := fun w' (hb : Below wj.heap.size wj w') => mField_any G.ks[j] kx x w' (by omega) (hIK.below hb)
                      have CF2 := fun w' (hb : Below wj.heap.size wj w') => rField_any G.ks[j] kx x w' (by omega) (hIK.below hb)
                      obtain ⟨fk, fo, tn, fb, hff⟩ := fldV_form (G.ks[j]).fs x
                      rw [hff] at CF1 CF2
                      unfold N3.val at CF1 CF2
                      clear hff hIK hfl
                      go_upto_region 21 with fail
                      clear sc
                      refine wp_specsD (stSp w2.heap.size (.slice (some ⟨kb, ko_, none⟩) G.ks.length skc) j kb ko_ (.agg #[.string kx.nm, .slice kx.ao kx.al kx.ac, .slice kx.bo kx.bl kx.bc]) (.slice (some ⟨g, off, none⟩) al.length alc) i g off x (.tuple #[.agg #[.int .i64 fk, .int .i64 fo, .string tn], .bool fb]) (.agg #[.int .i64 fk, .int .i64 fo, .string tn]) fb) (GT 24 wj fk fo tn) (by kernel_rfl) (by kernel_rfl) (by kernel_rfl) (GT.start _ wj) ?_ ?_ ?_
                      · intro q o d ho hd L a' w' hL hw hRR hdep hslot hsz K hK
                        have hqN : q < 16 := dstOf_lt hd
                        have hR := hRR.below
                        have cb : w'.cell? ⟨w2.heap.size, 0, none⟩ = some (.slice (some ⟨kb, ko_, none⟩) G.ks.length skc) := by rw [Lib.cell_of_heap (kept_of_below hR HBF)]; rfl
                        have m0 := (hR.cell (p := ⟨kb, ko_ + j * 3, none⟩) hkbF).trans n0F
                        have m1 := (hR.cell (p := ⟨kb, ko_ + j * 3 + 1, none⟩) hkbF).trans n1F
                        have m2 := (hR.cell (p := ⟨kb, ko_ + j * 3 + 2, none⟩) hkbF).trans n2F
                        have cx : w'.cell? ⟨g, off + i, none⟩ = some (.string x) := (hR.cell (p := ⟨g, off + i, none⟩) hgF).trans cxF
                        have hs11 : a'.tmps.getD 11 undef = .pointer (some ⟨w2.heap.size, 0, none⟩) := hslot 11 (fun q h => by have hl := dstOf_lt h; match q, hl with | 0, _ => cases h | 1, _ => cases h | 2, _ => cases h | 3, _ => cases h | 4, _ => cases h | 5, _ => cases h | 6, _ => cases h | 7, _ => cases h | 8, _ => cases h | 9, _ => cases h | 10, _ => cases h | 11, _ => cases h | 12, _ => cases h | 13, _ => cases h | 14, _ => cases h | 15, _ => cases h)
                        have hs13 : a'.tmps.getD 13 undef = .slice (some ⟨g, off, none⟩) al.length alc := hslot 13 (fun q h => by have hl := dstOf_lt h; match q, hl with | 0, _ => cases h | 1, _ => cases h | 2, _ => cases h | 3, _ => cases h | 4, _ => cases h | 5, _ => cases h | 6, _ => cases h | 7, _ => cases h | 8, _ => cases h | 9, _ => cases h | 10, _ => cases h | 11, _ => cases h | 12, _ => cases h | 13, _ => cases h | 14, _ => cases h | 15, _ => cases h)
                        have hs14 : a'.tmps.getD 14 undef = .int .i64 i := hslot 14 (fun q h => by have hl := dstOf_lt h; match q, hl with | 0, _ => cases h | 1, _ => cases h | 2, _ => cases h | 3, _ => cases h | 4, _ => cases h | 5, _ => cases h | 6, _ => cases h | 7, _ => cases h | 8, _ => cases h | 9, _ => cases h | 10, _ => cases h | 11, _ => cases h | 12, _ => cases h | 13, _ => cases h | 14, _ => cases h | 15, _ => cases h)
                        have hs23 : a'.tmps.getD 23 undef = .int .i64 j := hslot 23 (fun q h => by have hl := dstOf_lt h; match q, hl with | 0, _ => cases h | 1, _ => cases h | 2, _ => cases h | 3, _ => cases h | 4, _ => cases h | 5, _ => cases h | 6, _ => cases h | 7, _ => cases h | 8, _ => cases h | 9, _ => cases h | 10, _ => cases h | 11, _ => cases h | 12, _ => cases h | 13, _ => cases h | 14, _ => cases h | 15, _ => cases h)
                        have hc : q = 0 ∨ q = 1 ∨ q = 2 ∨ q = 3 ∨ q = 4 ∨ q = 5 ∨ q = 6 ∨ q = 7 ∨ q = 8 ∨ q = 9 ∨ q = 10 ∨ q = 11 ∨ q = 12 ∨ q = 13 ∨ q = 14 ∨ q = 15 := by omega
                        rcases hc with rfl | rfl | rfl | rfl | rfl | rfl | rfl | rfl | rfl | rfl | rfl | rfl | rfl | rfl | rfl | rfl
                        · cases ho
                          cases hd
                          have e0 := hs11
                          clear cb m0 m1 m2 cx
                          unfold Oper.wp
                          go_simp
                          exact hK _ _ rfl (hRR.step (Below.refl _ w') 0 128 _ (by decide) (by decide) (by decide)) (fun _ _ h => h)
                        · cases ho
                          cases hd
                          have e0 : a'.tmps.getD 128 undef = .pointer (some ⟨w2.heap.size, 0, none⟩) := hdep 0 128 rfl (by kernel_rfl)
                          have e0' : a'.tmps[128]?.getD undef = .pointer (some ⟨w2.heap.size, 0, none⟩) := by simpa using e0
                          clear m0 m1 m2 cx
                          unfold Oper.wp
                          go_simp
                          exact hK _ _ rfl (hRR.step (Below.refl _ w') 1 129 _ (by decide) (by decide) (by decide)) (fun _ _ h => h)
                        · cases ho
                          cases hd
                          have e0 := hs23
                          clear cb m0 m1 m2 cx
                          unfold Oper.wp
                          go_simp
                          exact hK _ _ rfl (hRR.step (Below.refl _ w') 2 130 _ (by decide) (by decide) (by decide)) (fun _ _ h => h)
                        · cases ho
                          cases hd
                          have e0 : a'.tmps.getD 129 undef = .slice (some ⟨kb, ko_, none⟩) G.ks.length skc := hdep 1 129 rfl (by kernel_rfl)
                          have e0' : a'.tmps[129]?.getD undef = .slice (some ⟨kb, ko_, none⟩) G.ks.length skc := by simpa using e0
                          have e1 : a'.tmps.getD 130 undef = .int .i64 j := hdep 2 130 rfl (by kernel_rfl)
                          have e1' : a'.tmps[130]?.getD undef = .int .i64 j := by simpa using e1
                          clear cb m0 m1 m2 cx
                          unfold Oper.wp
                          go_simp
                          exact hK _ _ rfl (hRR.step (Below.refl _ w') 3 131 _ (by decide) (by decide) (by decide)) (fun _ _ h => h)
                        · cases ho
                          cases hd
                          have e0 : a'.tmps.getD 131 undef = .pointer (some ⟨kb, ko_ + j * 3, none⟩) := hdep 3 131 rfl (by kernel_rfl)
                          have e0' : a'.tmps[131]?.getD undef = .pointer (some ⟨kb, ko_ + j * 3, none⟩) := by simpa using e0
                          clear cb cx
                          unfold Oper.wp
                          go_simp
                          exact hK _ _ rfl (hRR.step (Below.refl _ w') 4 132 _ (by decide) (by decide) (by decide)) (fun _ _ h => h)
                        · cases ho
                          cases hd
                          have e0 := hs13
                          clear cb m0 m1 m2 cx
                          unfold Oper.wp
                          go_simp
                          exact hK _ _ rfl (hRR.step (Below.refl _ w') 5 133 _ (by decide) (by decide) (by decide)) (fun _ _ h => h)
                        · cases ho
                          cases hd
                          have e0 := hs14
                          clear cb m0 m1 m2 cx
                          unfold Oper.wp
                          go_simp
                          exact hK _ _ rfl (hRR.step (Below.refl _ w') 6 134 _ (by decide) (by decide) (by decide)) (fun _ _ h => h)
                        · cases ho
                          cases hd
                          have e0 : a'.tmps.getD 133 undef = .slice (some ⟨g, off, none⟩) al.length alc := hdep 5 133 rfl (by kernel_rfl)
                          have e0' : a'.tmps[133]?.getD undef = .slice (some ⟨g, off, none⟩) al.length alc := by simpa using e0
                          have e1 : a'.tmps.getD 134 undef = .int .i64 i := hdep 6 134 rfl (by kernel_rfl)
                          have e1' : a'.tmps[134]?.getD undef = .int .i64 i := by simpa using e1
                          clear cb m0 m1 m2 cx
                          unfold Oper.wp
                          go_simp
                          exact hK _ _ rfl (hRR.step (Below.refl _ w') 7 135 _ (by decide) (by decide) (by decide)) (fun _ _ h => h)
                        · cases ho
                          cases hd
                          have e0 : a'.tmps.getD 135 undef = .pointer (some ⟨g, off + i, none⟩) := hdep 7 135 rfl (by kernel_rfl)
                          have e0' : a'.tmps[135]?.getD undef = .pointer (some ⟨g, off + i, none⟩) := by simpa using e0
                          clear cb m0 m1 m2
                          unfold Oper.wp
                          go_simp
                          exact hK _ _ rfl (hRR.step (Below.refl _ w') 8 136 _ (by decide) (by decide) (by decide)) (fun _ _ h => h)
                        · cases ho
                          cases hd
                          have e0 : a'.tmps.getD 132 undef = .agg #[.string kx.nm, .slice kx.ao kx.al kx.ac, .slice kx.bo kx.bl kx.bc] := hdep 4 132 rfl (by kernel_rfl)
                          have e0' : a'.tmps[132]?.getD undef = .agg #[.string kx.nm, .slice kx.ao kx.al kx.ac, .slice kx.bo kx.bl kx.bc] := by simpa using e0
                          have e1 : a'.tmps.getD 136 undef = .string x := hdep 8 136 rfl (by kernel_rfl)
                          have e1' : a'.tmps[136]?.getD undef = .string x := by simpa using e1
                          clear cb m0 m1 m2 cx
                          unfold Oper.wp
                          go_simp
                          refine (CF1 w' hR).mono ?_
                          rintro e w9 ⟨rfl, b9⟩
                          exact hK _ _ rfl (hRR.step b9 9 137 _ (by decide) (by decide) (by decide)) stSp_up
                        · cases ho
                          cases hd
                          have e0 : a'.tmps.getD 137 undef = .tuple #[.agg #[.int .i64 fk, .int .i64 fo, .string tn], .bool fb] := hdep 9 137 rfl (by kernel_rfl)
                          have e0' : a'.tmps[137]?.getD undef = .tuple #[.agg #[.int .i64 fk, .int .i64 fo, .string tn], .bool fb] := by simpa using e0
                          clear cb m0 m1 m2 cx
                          unfold Oper.wp
                          go_simp
                          exact hK _ _ rfl (hRR.step (Below.refl _ w') 10 127 _ (by decide) (by decide) (by decide)) (fun _ _ h => h)
                        · cases ho
                          cases hd
                          have e0 : a'.tmps.getD 127 undef = .tuple #[.agg #[.int .i64 fk, .int .i64 fo, .string tn], .bool fb] := hdep 10 127 rfl (by kernel_rfl)
                          have e0' : a'.tmps[127]?.getD undef = .tuple #[.agg #[.int .i64 fk, .int .i64 fo, .string tn], .bool fb] := by simpa using e0
                          clear cb m0 m1 m2 cx
                          unfold Oper.wp
                          go_simp
                          exact hK _ _ rfl (hRR.step (Below.refl _ w') 11 138 _ (by decide) (by decide) (by decide)) (fun _ _ h => h)
                        · cases ho
                          cases hd
                          have e0 : a'.tmps.getD 127 undef = .tuple #[.agg #[.int .i64 fk, .int .i64 fo, .string tn], .bool fb] := hdep 10 127 rfl (by kernel_rfl)
                          have e0' : a'.tmps[127]?.getD undef = .tuple #[.agg #[.int .i64 fk, .int .i64 fo, .string tn], .bool fb] := by simpa using e0
                          clear cb m0 m1 m2 cx
                          unfold Oper.wp
                          go_simp
                          exact hK _ _ rfl (hRR.step (Below.refl _ w') 12 139 _ (by decide) (by decide) (by decide)) (fun _ _ h => h)
                        · cases ho
                          cases hd
                          clear cb m0 m1 m2 cx
                          unfold Oper.wp
                          go_simp
                          exact hK _ _ trivial (hRR.alloc hL (by rw [hsz]; first | decide | simp)) stSp_up
                        · cases hd
                        · cases ho
                          cases hd
                          have e0 : a'.tmps.getD 139 undef = .bool fb := hdep 12 139 rfl (by kernel_rfl)
                          have e0' : a'.tmps[139]?.getD undef = .bool fb := by simpa using e0
                          clear cb m0 m1 m2 cx
                          unfold Oper.wp
                          go_simp
                          exact hK _ _ rfl (hRR.step (Below.refl _ w') 15 25 _ (by decide) (by decide) (by decide)) (fun _ _ h => h)
                      · intro q o ho hd L a' w' hL hw hRR hdep K hK
                        have hqN : q < 16 := (List.getElem?_eq_some_iff.1 ho).1
                        have hR := hRR.below
                        have cb : w'.cell? ⟨w2.heap.size, 0, none⟩ = some (.slice (some ⟨kb, ko_, none⟩) G.ks.length skc) := by rw [Lib.cell_of_heap (kept_of_below hR HBF)]; rfl
                        have m0 := (hR.cell (p := ⟨kb, ko_ + j * 3, none⟩) hkbF).trans n0F
                        have m1 := (hR.cell (p := ⟨kb, ko_ + j * 3 + 1, none⟩) hkbF).trans n1F
                        have m2 := (hR.cell (p := ⟨kb, ko_ + j * 3 + 2, none⟩) hkbF).trans n2F
                        have cx : w'.cell? ⟨g, off + i, none⟩ = some (.string x) := (hR.cell (p := ⟨g, off + i, none⟩) hgF).trans cxF
                        have hc : q = 0 ∨ q = 1 ∨ q = 2 ∨ q = 3 ∨ q = 4 ∨ q = 5 ∨ q = 6 ∨ q = 7 ∨ q = 8 ∨ q = 9 ∨ q = 10 ∨ q = 11 ∨ q = 12 ∨ q = 13 ∨ q = 14 ∨ q = 15 := by omega
                        rcases hc with rfl | rfl | rfl | rfl | rfl | rfl | rfl | rfl | rfl | rfl | rfl | rfl | rfl | rfl | rfl | rfl
                        · cases hd
                        · cases hd
                        · cases hd
                        · cases hd
                        · cases hd
                        · cases hd
                        · cases hd
                        · cases hd
                        · cases hd
                        · cases hd
                        · cases hd
                        · cases hd
                        · cases hd
                        · cases hd
                        · cases ho
                          have e0 : a'.tmps.getD 138 undef = .agg #[.int .i64 fk, .int .i64 fo, .string tn] := hdep 11 138 rfl (by kernel_rfl)
                          have e0' : a'.tmps[138]?.getD undef = .agg #[.int .i64 fk, .int .i64 fo, .string tn] := by simpa using e0
                          obtain ⟨V, eV, hVz, hS_⟩ := hRR.store (hw 13 (by kernel_rfl)) hL
                          have d0 : w'.cell? ⟨V, 0, none⟩ = some (.int .i64 0) := by rw [Lib.cell_of_heap hVz]; rfl
                          have d1 : w'.cell? ⟨V, 1, none⟩ = some (.int .i64 0) := by rw [Lib.cell_of_heap hVz]; rfl
                          have d2 : w'.cell? ⟨V, 2, none⟩ = some (.string ⟨#[]⟩) := by rw [Lib.cell_of_heap hVz]; rfl
                          have df : ∀ o, w'.frozen? ⟨V, o, none⟩ = false := fun o => Lib.frozen_of_heap hVz o
                          have HS_ := hide hS_
                          clear hVz hS_ cb m0 m1 m2 cx
                          unfold Oper.wp
                          go_simp
                          exact hK _ (unhide HS_) stSp_up undef
                        · cases hd
                      · intro v L w' hLa hRR hv
                        have bqF := hRR.below
                        obtain ⟨VF, eV, hVw, hVF⟩ := hRR.full (hLa 14 (by decide))
                        have f0 : v 0 = _ := (hv 0 128 rfl).1
                        have f1 : v 1 = _ := (hv 1 129 rfl).1
                        have f2 : v 2 = _ := (hv 2 130 rfl).1
                        have f3 : v 3 = _ := (hv 3 131 rfl).1
                        have f4 : v 4 = _ := (hv 4 132 rfl).1
                        have f5 : v 5 = _ := (hv 5 133 rfl).1
                        have f6 : v 6 = _ := (hv 6 134 rfl).1
                        have f7 : v 7 = _ := (hv 7 135 rfl).1
                        have f8 : v 8 = _ := (hv 8 136 rfl).1
                        have f9 : v 9 = _ := (hv 9 137 rfl).1
                        have f10 : v 10 = _ := (hv 10 127 rfl).1
                        have f11 : v 11 = _ := (hv 11 138 rfl).1
                        have f12 : v 12 = _ := (hv 12 139 rfl).1
                        have f15 : v 15 = _ := (hv 15 25 rfl).1
                        have f13 : v 13 = .pointer (some ⟨VF, 0, none⟩) := ((hv 13 24 rfl).2).symm.trans eV
                        clear hRR hv hLa eV
                        simp only [putAll, dstOf, List.getElem?_cons_zero, List.getElem?_cons_succ, Option.bind_some, List.length_cons, List.length_nil, f0, f1, f2, f3, f4, f5, f6, f7, f8, f9, f10, f11, f12, f13, f15]
                        clear f0 f1 f2 f3 f4 f5 f6 f7 f8 f9 f10 f11 f12 f13 f15
                        simp only [Act.put, List.setIfInBounds_toArray, List.set_cons_succ, List.set_cons_zero]
                        generalize v 14 = v14F
                        obtain ⟨wF, hwF⟩ : ∃ q, q = w' := ⟨_, rfl⟩
                        subst hwF
                        have bqF2 := bqF
                        have HBG := kept_of_below bqF HBF
                        have hkbG : kb < wF.heap.size := by have := bqF.size; omega
                        have n0G := (bqF.cell (p := ⟨kb, ko_ + j * 3, none⟩) hkbF).trans n0F
                        have n1G := (bqF.cell (p := ⟨kb, ko_ + j * 3 + 1, none⟩) hkbF).trans n1F
                        have n2G := (bqF.cell (p := ⟨kb, ko_ + j * 3 + 2, none⟩) hkbF).trans n2F
                        have hgG : g < wF.heap.size := by have := bqF.size; omega
                        have cxG := (bqF.cell (p := ⟨g, off + i, none⟩) hgF).trans cxF
                        go_upto_region 22 with fail
                        refine wp_specsD (stSp w2.heap.size (.slice (some ⟨kb, ko_, none⟩) G.ks.length skc) j kb ko_ (.agg #[.string kx.nm, .slice kx.ao kx.al kx.ac, .slice kx.bo kx.bl kx.bc]) (.slice (some ⟨g, off, none⟩) al.length alc) i g off x (.tuple #[.agg #[.int .i64 fk, .int .i64 fo, .string tn], .bool fb]) (.agg #[.int .i64 fk, .int .i64 fo, .string tn]) fb) (GT 26 wF fk fo tn) (by kernel_rfl) (by kernel_rfl) (by kernel_rfl) (GT.start _ wF) ?_ ?_ ?_
                        · intro q o d ho hd L a' w' hL hw hRR hdep hslot hsz K hK
                          have hqN : q < 16 := dstOf_lt hd
                          have hR := hRR.below
                          have cb : w'.cell? ⟨w2.heap.size, 0, none⟩ = some (.slice (some ⟨kb, ko_, none⟩) G.ks.length skc) := by rw [Lib.cell_of_heap (kept_of_below hR HBG)]; rfl
                          have m0 := (hR.cell (p := ⟨kb, ko_ + j * 3, none⟩) hkbG).trans n0G
                          have m1 := (hR.cell (p := ⟨kb, ko_ + j * 3 + 1, none⟩) hkbG).trans n1G
                          have m2 := (hR.cell (p := ⟨kb, ko_ + j * 3 + 2, none⟩) hkbG).trans n2G
                          have cx : w'.cell? ⟨g, off + i, none⟩ = some (.string x) := (hR.cell (p := ⟨g, off + i, none⟩) hgG).trans cxG
                          have hs11 : a'.tmps.getD 11 undef = .pointer (some ⟨w2.heap.size, 0, none⟩) := hslot 11 (fun q h => by have hl := dstOf_lt h; match q, hl with | 0, _ => cases h | 1, _ => cases h | 2, _ => cases h | 3, _ => cases h | 4, _ => cases h | 5, _ => cases h | 6, _ => cases h | 7, _ => cases h | 8, _ => cases h | 9, _ => cases h | 10, _ => cases h | 11, _ => cases h | 12, _ => cases h | 13, _ => cases h | 14, _ => cases h | 15, _ => cases h)
                          have hs13 : a'.tmps.getD 13 undef = .slice (some ⟨g, off, none⟩) al.length alc := hslot 13 (fun q h => by have hl := dstOf_lt h; match q, hl with | 0, _ => cases h | 1, _ => cases h | 2, _ => cases h | 3, _ => cases h | 4, _ => cases h | 5, _ => cases h | 6, _ => cases h | 7, _ => cases h | 8, _ => cases h | 9, _ => cases h | 10, _ => cases h | 11, _ => cases h | 12, _ => cases h | 13, _ => cases h | 14, _ => cases h | 15, _ => cases h)
                          have hs14 : a'.tmps.getD 14 undef = .int .i64 i := hslot 14 (fun q h => by have hl := dstOf_lt h; match q, hl with | 0, _ => cases h | 1, _ => cases h | 2, _ => cases h | 3, _ => cases h | 4, _ => cases h | 5, _ => cases h | 6, _ => cases h | 7, _ => cases h | 8, _ => cases h | 9, _ => cases h | 10, _ => cases h | 11, _ => cases h | 12, _ => cases h | 13, _ => cases h | 14, _ => cases h | 15, _ => cases h)
                          have hs23 : a'.tmps.getD 23 undef = .int .i64 j := hslot 23 (fun q h => by have hl := dstOf_lt h; match q, hl with | 0, _ => cases h | 1, _ => cases h | 2, _ => cases h | 3, _ => cases h | 4, _ => cases h | 5, _ => cases h | 6, _ => cases h | 7, _ => cases h | 8, _ => cases h | 9, _ => cases h | 10, _ => cases h | 11, _ => cases h | 12, _ => cases h | 13, _ => cases h | 14, _ => cases h | 15, _ => cases h)
                          have hc : q = 0 ∨ q = 1 ∨ q = 2 ∨ q = 3 ∨ q = 4 ∨ q = 5 ∨ q = 6 ∨ q = 7 ∨ q = 8 ∨ q = 9 ∨ q = 10 ∨ q = 11 ∨ q = 12 ∨ q = 13 ∨ q = 14 ∨ q = 15 := by omega
                          rcases hc with rfl | rfl | rfl | rfl | rfl | rfl | rfl | rfl | rfl | rfl | rfl | rfl | rfl | rfl | rfl | rfl
                          · cases ho
                            cases hd
                            have e0 := hs11
                            clear cb m0 m1 m2 cx
                            unfold Oper.wp
                            go_simp
                            exact hK _ _ rfl (hRR.step (Below.refl _ w') 0 141 _ (by decide) (by decide) (by decide)) (fun _ _ h => h)
                          · cases ho
                            cases hd
                            have e0 : a'.tmps.getD 141 undef = .pointer (some ⟨w2.heap.size, 0, none⟩) := hdep 0 141 rfl (by kernel_rfl)
                            have e0' : a'.tmps[141]?.getD undef = .pointer (some ⟨w2.heap.size, 0, none⟩) := by simpa using e0
                            clear m0 m1 m2 cx
                            unfold Oper.wp
                            go_simp
                            exact hK _ _ rfl (hRR.step (Below.refl _ w') 1 142 _ (by decide) (by decide) (by decide)) (fun _ _ h => h)
                          · cases ho
                            cases hd
                            have e0 := hs23
                            clear cb m0 m1 m2 cx
                            unfold Oper.wp
                            go_simp
                            exact hK _ _ rfl (hRR.step (Below.refl _ w') 2 143 _ (by decide) (by decide) (by decide)) (fun _ _ h => h)
                          · cases ho
                            cases hd
                            have e0 : a'.tmps.getD 142 undef = .slice (some ⟨kb, ko_, none⟩) G.ks.length skc := hdep 1 142 rfl (by kernel_rfl)
                            have e0' : a'.tmps[142]?.getD undef = .slice (some ⟨kb, ko_, none⟩) G.ks.length skc := by simpa using e0
                            have e1 : a'.tmps.getD 143 undef = .int .i64 j := hdep 2 143 rfl (by kernel_rfl)
                            have e1' : a'.tmps[143]?.getD undef = .int .i64 j := by simpa using e1
                            clear cb m0 m1 m2 cx
                            unfold Oper.wp
                            go_simp
                            exact hK _ _ rfl (hRR.step (Below.refl _ w') 3 144 _ (by decide) (by decide) (by decide)) (fun _ _ h => h)
                          · cases ho
                            cases hd
                            have e0 : a'.tmps.getD 144 undef = .pointer (some ⟨kb, ko_ + j * 3, none⟩) := hdep 3 144 rfl (by kernel_rfl)
                            have e0' : a'.tmps[144]?.getD undef = .pointer (some ⟨kb, ko_ + j * 3, none⟩) := by simpa using e0
                            clear cb cx
                            unfold Oper.wp
                            go_simp
                            exact hK _ _ rfl (hRR.step (Below.refl _ w') 4 145 _ (by decide) (by decide) (by decide)) (fun _ _ h => h)
                          · cases ho
                            cases hd
                            have e0 := hs13
                            clear cb m0 m1 m2 cx
                            unfold Oper.wp
                            go_simp
                            exact hK _ _ rfl (hRR.step (Below.refl _ w') 5 146 _ (by decide) (by decide) (by decide)) (fun _ _ h => h)
                          · cases ho
                            cases hd
                            have e0 := hs14
                            clear cb m0 m1 m2 cx
                            unfold Oper.wp
                            go_simp
                            exact hK _ _ rfl (hRR.step (Below.refl _ w') 6 147 _ (by decide) (by decide) (by decide)) (fun _ _ h => h)
                          · cases ho
                            cases hd
                            have e0 : a'.tmps.getD 146 undef = .slice (some ⟨g, off, none⟩) al.length alc := hdep 5 146 rfl (by kernel_rfl)
                            have e0' : a'.tmps[146]?.getD undef = .slice (some ⟨g, off, none⟩) al.length alc := by simpa using e0
                            have e1 : a'.tmps.getD 147 undef = .int .i64 i := hdep 6 147 rfl (by kernel_rfl)
                            have e1' : a'.tmps[147]?.getD undef = .int .i64 i := by simpa using e1
                            clear cb m0 m1 m2 cx
                            unfold Oper.wp
                            go_simp
                            exact hK _ _ rfl (hRR.step (Below.refl _ w') 7 148 _ (by decide) (by decide) (by decide)) (fun _ _ h => h)
                          · cases ho
                            cases hd
                            have e0 : a'.tmps.getD 148 undef = .pointer (some ⟨g, off + i, none⟩) := hdep 7 148 rfl (by kernel_rfl)
                            have e0' : a'.tmps[148]?.getD undef = .pointer (some ⟨g, off + i, none⟩) := by simpa using e0
                            clear cb m0 m1 m2
                            unfold Oper.wp
                            go_simp
                            exact hK _ _ rfl (hRR.step (Below.refl _ w') 8 149 _ (by decide) (by decide) (by decide)) (fun _ _ h => h)
                          · cases ho
                            cases hd
                            have e0 : a'.tmps.getD 145 undef = .agg #[.string kx.nm, .slice kx.ao kx.al kx.ac, .slice kx.bo kx.bl kx.bc] := hdep 4 145 rfl (by kernel_rfl)
                            have e0' : a'.tmps[145]?.getD undef = .agg #[.string kx.nm, .slice kx.ao kx.al kx.ac, .slice kx.bo kx.bl kx.bc] := by simpa using e0
                            have e1 : a'.tmps.getD 149 undef = .string x := hdep 8 149 rfl (by kernel_rfl)
                            have e1' : a'.tmps[149]?.getD undef = .string x := by simpa using e1
                            clear cb m0 m1 m2 cx
                            unfold Oper.wp
                            go_simp
                            refine ((fun w' hb => CF2 w' (bqF2.trans (hb.mono bqF2.size))) w' hR).mono ?_
                            rintro e w9 ⟨rfl, b9⟩
                            exact hK _ _ rfl (hRR.step b9 9 150 _ (by decide) (by decide) (by decide)) stSp_up
                          · cases ho
                            cases hd
                            have e0 : a'.tmps.getD 150 undef = .tuple #[.agg #[.int .i64 fk, .int .i64 fo, .string tn], .bool fb] := hdep 9 150 rfl (by kernel_rfl)
                            have e0' : a'.tmps[150]?.getD undef = .tuple #[.agg #[.int .i64 fk, .int .i64 fo, .string tn], .bool fb] := by simpa using e0
                            clear cb m0 m1 m2 cx
                            unfold Oper.wp
                            go_simp
                            exact hK _ _ rfl (hRR.step (Below.refl _ w') 10 140 _ (by decide) (by decide) (by decide)) (fun _ _ h => h)
                          · cases ho
                            cases hd
                            have e0 : a'.tmps.getD 140 undef = .tuple #[.agg #[.int .i64 fk, .int .i64 fo, .string tn], .bool fb] := hdep 10 140 rfl (by kernel_rfl)
                            have e0' : a'.tmps[140]?.getD undef = .tuple #[.agg #[.int .i64 fk, .int .i64 fo, .string tn], .bool fb] := by simpa using e0
                            clear cb m0 m1 m2 cx
                            unfold Oper.wp
                            go_simp
                            exact hK _ _ rfl (hRR.step (Below.refl _ w') 11 151 _ (by decide) (by decide) (by decide)) (fun _ _ h => h)
                          · cases ho
                            cases hd
                            have e0 : a'.tmps.getD 140 undef = .tuple #[.agg #[.int .i64 fk, .int .i64 fo, .string tn], .bool fb] := hdep 10 140 rfl (by kernel_rfl)
                            have e0' : a'.tmps[140]?.getD undef = .tuple #[.agg #[.int .i64 fk, .int .i64 fo, .string tn], .bool fb] := by simpa using e0
                            clear cb m0 m1 m2 cx
                            unfold Oper.wp
                            go_simp
                            exact hK _ _ rfl (hRR.step (Below.refl _ w') 12 152 _ (by decide) (by decide) (by decide)) (fun _ _ h => h)
                          · cases ho
                            cases hd
                            clear cb m0 m1 m2 cx
                            unfold Oper.wp
                            go_simp
                            exact hK _ _ trivial (hRR.alloc hL (by rw [hsz]; first | decide | simp)) stSp_up
                          · cases hd
                          · cases ho
                            cases hd
                            have e0 : a'.tmps.getD 152 undef = .bool fb := hdep 12 152 rfl (by kernel_rfl)
                            have e0' : a'.tmps[152]?.getD undef = .bool fb := by simpa using e0
                            clear cb m0 m1 m2 cx
                            unfold Oper.wp
                            go_simp
                            exact hK _ _ rfl (hRR.step (Below.refl _ w') 15 27 _ (by decide) (by decide) (by decide)) (fun _ _ h => h)
                        · intro q o ho hd L a' w' hL hw hRR hdep K hK
                          have hqN : q < 16 := (List.getElem?_eq_some_iff.1 ho).1
                          have hR := hRR.below
                          have cb : w'.cell? ⟨w2.heap.size, 0, none⟩ = some (.slice (some ⟨kb, ko_, none⟩) G.ks.length skc) := by rw [Lib.cell_of_heap (kept_of_below hR HBG)]; rfl
                          have m0 := (hR.cell (p := ⟨kb, ko_ + j * 3, none⟩) hkbG).trans n0G
                          have m1 := (hR.cell (p := ⟨kb, ko_ + j * 3 + 1, none⟩) hkbG).trans n1G
                          have m2 := (hR.cell (p := ⟨kb, ko_ + j * 3 + 2, none⟩) hkbG).trans n2G
                          have cx : w'.cell? ⟨g, off + i, none⟩ = some (.string x) := (hR.cell (p := ⟨g, off + i, none⟩) hgG).trans cxG
                          have hc : q = 0 ∨ q = 1 ∨ q = 2 ∨ q = 3 ∨ q = 4 ∨ q = 5 ∨ q = 6 ∨ q = 7 ∨ q = 8 ∨ q = 9 ∨ q = 10 ∨ q = 11 ∨ q = 12 ∨ q = 13 ∨ q = 14 ∨ q = 15 := by omega
                          rcases hc with rfl | rfl | rfl | rfl | rfl | rfl | rfl | rfl | rfl | rfl | rfl | rfl | rfl | rfl | rfl | rfl
                          · cases hd
                          · cases hd
                          · cases hd
                          · cases hd
                          · cases hd
                          · cases hd
                          · cases hd
                          · cases hd
                          · cases hd
                          · cases hd
                          · cases hd
                          · cases hd
                          · cases hd
                          · cases hd
                          · cases ho
                            have e0 : a'.tmps.getD 151 undef = .agg #[.int .i64 fk, .int .i64 fo, .string tn] := hdep 11 151 rfl (by kernel_rfl)
                            have e0' : a'.tmps[151]?.getD undef = .agg #[.int .i64 fk, .int .i64 fo, .string tn] := by simpa using e0
                            obtain ⟨V, eV, hVz, hS_⟩ := hRR.store (hw 13 (by kernel_rfl)) hL
                            have d0 : w'.cell? ⟨V, 0, none⟩ = some (.int .i64 0) := by rw [Lib.cell_of_heap hVz]; rfl
                            have d1 : w'.cell? ⟨V, 1, none⟩ = some (.int .i64 0) := by rw [Lib.cell_of_heap hVz]; rfl
                            have d2 : w'.cell? ⟨V, 2, none⟩ = some (.string ⟨#[]⟩) := by rw [Lib.cell_of_heap hVz]; rfl
                            have df : ∀ o, w'.frozen? ⟨V, o, none⟩ = false := fun o => Lib.frozen_of_heap hVz o
                            have HS_ := hide hS_
                            clear hVz hS_ cb m0 m1 m2 cx
                            unfold Oper.wp
                            go_simp
                            exact hK _ (unhide HS_) stSp_up undef
                          · cases hd
                        · intro v L w' hLa hRR hv
                          have bqG := hRR.below
                          obtain ⟨VG, eV, hVw, hVG⟩ := hRR.full (hLa 14 (by decide))
                          have f0 : v 0 = _ := (hv 0 141 rfl).1
                          have f1 : v 1 = _ := (hv 1 142 rfl).1
                          have f2 : v 2 = _ := (hv 2 143 rfl).1
                          have f3 : v 3 = _ := (hv 3 144 rfl).1
                          have f4 : v 4 = _ := (hv 4 145 rfl).1
                          have f5 : v 5 = _ := (hv 5 146 rfl).1
                          have f6 : v 6 = _ := (hv 6 147 rfl).1
                          have f7 : v 7 = _ := (hv 7 148 rfl).1
                          have f8 : v 8 = _ := (hv 8 149 rfl).1
                          have f9 : v 9 = _ := (hv 9 150 rfl).1
                          have f10 : v 10 = _ := (hv 10 140 rfl).1
                          have f11 : v 11 = _ := (hv 11 151 rfl).1
                          have f12 : v 12 = _ := (hv 12 152 rfl).1
                          have f15 : v 15 = _ := (hv 15 27 rfl).1
                          have f13 : v 13 = .pointer (some ⟨VG, 0, none⟩) := ((hv 13 26 rfl).2).symm.trans eV
                          clear hRR hv hLa eV
                          simp only [putAll, dstOf, List.getElem?_cons_zero, List.getElem?_cons_succ, Option.bind_some, List.length_cons, List.length_nil, f0, f1, f2, f3, f4, f5, f6, f7, f8, f9, f10, f11, f12, f13, f15]
                          clear f0 f1 f2 f3 f4 f5 f6 f7 f8 f9 f10 f11 f12 f13 f15
                          simp only [Act.put, List.setIfInBounds_toArray, List.set_cons_succ, List.set_cons_zero]
                          generalize v 14 = v14G
                          obtain ⟨wG, hwG⟩ : ∃ q, q = w' := ⟨_, rfl⟩
                          subst hwG
                          have hVF := kept_of_below bqG hVF
                          have vf0 : wG.cell? ⟨VF, 0, none⟩ = some (.int .i64 fk) := by rw [Lib.cell_of_heap hVF]; rfl
                          have vf1 : wG.cell? ⟨VF, 1, none⟩ = some (.int .i64 fo) := by rw [Lib.cell_of_heap hVF]; rfl
                          have vf2 : wG.cell? ⟨VF, 2, none⟩ = some (.string tn) := by rw [Lib.cell_of_heap hVF]; rfl
                          have vg0 : wG.cell? ⟨VG, 0, none⟩ = some (.int .i64 fk) := by rw [Lib.cell_of_heap hVG]; rfl
                          have vg1 : wG.cell? ⟨VG, 1, none⟩ = some (.int .i64 fo) := by rw [Lib.cell_of_heap hVG]; rfl
                          have vg2 : wG.cell? ⟨VG, 2, none⟩ = some (.string tn) := by rw [Lib.cell_of_heap hVG]; rfl
                          have BT := binNeqType fk fo tn
                          have fb1 : (fb != fb) = false := by simp
                          have fb2 : (fb == fb) = true := by simp
                          have bjG := hbj.trans ((bqF2.trans (bqG.mono bqF2.size)).mono hbj.size)
                          clear hVF hVG bqF bqG n0F n1F n2F n0G n1G n2G HBF HBG cxF cxG
                          go_wp2
                          go_roundw
                          case rel => exact ⟨j + 1, by go_num, by omega, bjG⟩
                          case measure =>
                            simp only [intOf]
                            omega
                    · have j1 : ¬ (j : Int) < (G.ks.length : Int) := by omega
                      have bLj := hbr.trans ((brT.trans (hbj.mono brT.size)).mono hbr.size)
                      go_wp2
                      go_roundw
                      case rel => exact ⟨i + 1, by go_num, by omega, bLj⟩
                      case measure =>
                        simp only [intOf]
                        omega
        · have i1 : ¬ (i : Int) < (al.length : Int) := by omega
          go_wp2_with fail
          go_meet
          case rel => exact hbr
    case rest =>
      rename World => wM
      have bLM := hcut
      have b0M := b0L.trans (bLM.mono b0L.size)
      have hSM := hS.below bLM
      have HBsM := kept_of_below bLM HBs
      have HSA := hide (show ∀ j (h : j < G.ac.length), SmallA G.ac[j] from fun j h => by have := hfewG.a G.ac[j] (List.getElem_mem h); exact ⟨by omega, by omega, by omega⟩)
      by_cases hr4 : rl.length < 4
      · have n4 : (rl.length : Int) < 4 := by omega
        go_wp2
        go_ret
        exact ⟨rfl, b0M⟩
      have n4 : ¬ (rl.length : Int) < 4 := by omega
      obtain ⟨rg, roff, rfl, hrg0, rcA⟩ := rowG_at (unhide HR) (Below.refl _ w) (show 0 < rl.length by omega)
      obtain ⟨_, _, e1, _, rcB⟩ := rowG_at (unhide HR) (Below.refl _ w) (show 1 < rl.length by omega)
      cases e1
      obtain ⟨_, _, e2, _, rcC⟩ := rowG_at (unhide HR) (Below.refl _ w) (show 2 < rl.length by omega)
      cases e2
      obtain ⟨_, _, e3, _, rcD⟩ := rowG_at (unhide HR) (Below.refl _ w) (show 3 < rl.length by omega)
      cases e3
      have b0Mc := b0M
      have rc0 : wM.cell? ⟨rg, roff, none⟩ = some (.int .i64 rl[0]) := (b0Mc.cell (p := ⟨rg, roff, none⟩) hrg0).trans (by simpa using rcA 0 _ rfl)
      have rc1 : wM.cell? ⟨rg, roff + 1, none⟩ = some (.int .i64 rl[1]) := (b0Mc.cell (p := ⟨rg, roff + 1, none⟩) hrg0).trans (by simpa using rcB 0 _ rfl)
      have rc2 : wM.cell? ⟨rg, roff + 2, none⟩ = some (.int .i64 rl[2]) := (b0Mc.cell (p := ⟨rg, roff + 2, none⟩) hrg0).trans (by simpa using rcC 0 _ rfl)
      have rc3 : wM.cell? ⟨rg, roff + 3, none⟩ = some (.int .i64 rl[3]) := (b0Mc.cell (p := ⟨rg, roff + 3, none⟩) hrg0).trans (by simpa using rcD 0 _ rfl)
      have hrg : rg < wM.heap.size := by have := b0Mc.size; omega
      clear rcA rcB rcC rcD HR b0Mc
      generalize rl[0] = p at *
      generalize rl[1] = a at *
      generalize rl[2] = r at *
      generalize rl[3] = t3 at *
      have r0 : (0 : Int) < (rl.length : Int) := by omega
      have r0n : 0 < rl.length := by omega
      have r1 : (1 : Int) < (rl.length : Int) := by omega
      have r2 : (2 : Int) < (rl.length : Int) := by omega
      have r3 : (3 : Int) < (rl.length : Int) := by omega
      have CU1 := fun w' => uid5_any p [] none 0 w' (by simp) (by simp) (fun j hj => absurd hj (Nat.not_lt_zero _))
      have CU2 := fun w' => uid5_any r [] none 0 w' (by simp) (by simp) (fun j hj => absurd hj (Nat.not_lt_zero _))
      obtain ⟨m, hm⟩ : ∃ m : Nat, (m : Int) = a % 4 := ⟨(a % 4).toNat, by omega⟩
      have CW := fun w' => within10_any a 4 (by decide) (by decide) w'
      rw [← hm] at CW
      have hm4 : m < 4 := by omega
      have m1 : (m : Int) < 4 := by omega
      have m0 : (0 : Int) ≤ (m : Int) := by omega
      have HAI := hide (a4_cells m hm4)
      clear hm
      simp only [List.length_nil] at CU1 CU2
      generalize a4s.getD m ⟨#[]⟩ = ai at *
      generalize ba (tyI5 p) = pt at *
      generalize ba (tyI5 r) = rt at *
      generalize ba (idt5 []) = idn at *
      have hzw : wM.heap.size ≤ wM.heap.size := Nat.le_refl _
      go_upto_region 27 with fail
      refine wp_specs_put 18 (a27Sp wM.heap.size (.slice (some ⟨rg, roff, none⟩) rl.length rc) rg roff p a r m pt ai rt idn) (fun w' => Below wM.heap.size wM w') (by kernel_rfl) (by kernel_rfl) (Below.refl _ wM).drew ?_ ?_
      · intro q o hq' ho a' w' hR hdep hslot K hK
        have rr0 := (hR.cell (p := ⟨rg, roff, none⟩) hrg).trans rc0
        have rr1 := (hR.cell (p := ⟨rg, roff + 1, none⟩) hrg).trans rc1
        have rr2 := (hR.cell (p := ⟨rg, roff + 2, none⟩) hrg).trans rc2
        have hc : q = 0 ∨ q = 1 ∨ q = 2 ∨ q = 3 ∨ q = 4 ∨ q = 5 ∨ q = 6 ∨ q = 7 ∨ q = 8 ∨ q = 9 ∨ q = 10 ∨ q = 11 ∨ q = 12 ∨ q = 13 ∨ q = 14 ∨ q = 15 ∨ q = 16 ∨ q = 17 := by omega
        rcases hc with rfl | rfl | rfl | rfl | rfl | rfl | rfl | rfl | rfl | rfl | rfl | rfl | rfl | rfl | rfl | rfl | rfl | rfl
        · cases ho
          have e0 : a'.tmps.getD 4 undef = .slice (some ⟨rg, roff, none⟩) rl.length rc := hslot 4 (by decide)
          clear rr0 rr1 rr2
          unfold Oper.wp
          go_simp
          exact hK _ _ rfl hR (fun _ _ h => h)
        · cases ho
          have e0 : a'.tmps.getD 164 undef = .slice (some ⟨rg, roff, none⟩) rl.length rc := hdep 0 (by kernel_rfl)
          clear rr0 rr1 rr2
          unfold Oper.wp
          go_simp
          exact hK _ _ rfl hR (fun _ _ h => h)
        · cases ho
          have e0 : a'.tmps.getD 165 undef = .pointer (some ⟨rg, roff, none⟩) := hdep 1 (by kernel_rfl)
          clear rr1 rr2
          unfold Oper.wp
          go_simp
          exact hK _ _ rfl hR (fun _ _ h => h)
        · cases ho
          have e0 : a'.tmps.getD 166 undef = .int .i64 p := hdep 2 (by kernel_rfl)
          clear rr0 rr1 rr2
          unfold Oper.wp
          go_simp
          refine (CU1 w').mono ?_
          rintro e w9 ⟨rfl, b9⟩
          exact hK _ _ rfl (hR.trans (b9.mono hR.size)) (a27Sp_up b9)
        · cases ho
          clear rr0 rr1 rr2
          unfold Oper.wp
          go_simp
          exact hK _ _ ⟨w'.heap.size, rfl, alloc_heap _ _⟩ (hR.alloc hR.size _) (a27Sp_up (blw1 _ _))
        · cases ho
          have e0 : a'.tmps.getD 4 undef = .slice (some ⟨rg, roff, none⟩) rl.length rc := hslot 4 (by decide)
          clear rr0 rr1 rr2
          unfold Oper.wp
          go_simp
          exact hK _ _ rfl hR (fun _ _ h => h)
        · cases ho
          have e0 : a'.tmps.getD 169 undef = .slice (some ⟨rg, roff, none⟩) rl.length rc := hdep 5 (by kernel_rfl)
          clear rr0 rr1 rr2
          unfold Oper.wp
          go_simp
          exact hK _ _ rfl hR (fun _ _ h => h)
        · cases ho
          have e0 : a'.tmps.getD 170 undef = .pointer (some ⟨rg, roff + 1, none⟩) := hdep 6 (by kernel_rfl)
          clear rr0 rr2
          unfold Oper.wp
          go_simp
          exact hK _ _ rfl hR (fun _ _ h => h)
        · cases ho
          have e0 : a'.tmps.getD 171 undef = .int .i64 a := hdep 7 (by kernel_rfl)
          clear rr0 rr1 rr2
          unfold Oper.wp
          go_simp
          refine (CW w').mono ?_
          rintro e w9 ⟨rfl, hw9⟩
          subst hw9
          exact hK _ _ rfl hR (fun _ _ h => h)
        · cases ho
          obtain ⟨b, e0, hb⟩ : a27Sp wM.heap.size (.slice (some ⟨rg, roff, none⟩) rl.length rc) rg roff p a r m pt ai rt idn 4 (a'.tmps.getD 168 undef) w' := hdep 4 (by kernel_rfl)
          have e1 : a'.tmps.getD 172 undef = .int .i64 (m : Nat) := hdep 8 (by kernel_rfl)
          have Hb := hide hb
          clear hb rr0 rr1 rr2
          unfold Oper.wp
          go_simp
          exact hK _ _ ⟨b, rfl, unhide Hb⟩ hR (fun _ _ h => h)
        · cases ho
          obtain ⟨b, e0, hb⟩ : a27Sp wM.heap.size (.slice (some ⟨rg, roff, none⟩) rl.length rc) rg roff p a r m pt ai rt idn 9 (a'.tmps.getD 173 undef) w' := hdep 9 (by kernel_rfl)
          have cb : w'.cell? ⟨b, m, none⟩ = some (.string ai) := by rw [Lib.cell_of_heap hb]; exact unhide HAI
          clear hb rr0 rr1 rr2
          unfold Oper.wp
          go_simp
          exact hK _ _ rfl hR (fun _ _ h => h)
        · cases ho
          have e0 : a'.tmps.getD 174 undef = .string ai := hdep 10 (by kernel_rfl)
          have e0' : a'.tmps[174]?.getD undef = .string ai := by simpa using e0
          clear rr0 rr1 rr2
          unfold Oper.wp
          go_simp
          exact hK _ _ rfl hR (fun _ _ h => h)
        · cases ho
          have e0 : a'.tmps.getD 4 undef = .slice (some ⟨rg, roff, none⟩) rl.length rc := hslot 4 (by decide)
          clear rr0 rr1 rr2
          unfold Oper.wp
          go_simp
          exact hK _ _ rfl hR (fun _ _ h => h)
        · cases ho
          have e0 : a'.tmps.getD 176 undef = .slice (some ⟨rg, roff, none⟩) rl.length rc := hdep 12 (by kernel_rfl)
          clear rr0 rr1 rr2
          unfold Oper.wp
          go_simp
          exact hK _ _ rfl hR (fun _ _ h => h)
        · cases ho
          have e0 : a'.tmps.getD 177 undef = .pointer (some ⟨rg, roff + 2, none⟩) := hdep 13 (by kernel_rfl)
          clear rr0 rr1
          unfold Oper.wp
          go_simp
          exact hK _ _ rfl hR (fun _ _ h => h)
        · cases ho
          have e0 : a'.tmps.getD 178 undef = .int .i64 r := hdep 14 (by kernel_rfl)
          clear rr0 rr1 rr2
          unfold Oper.wp
          go_simp
          refine (CU2 w').mono ?_
          rintro e w9 ⟨rfl, b9⟩
          exact hK _ _ rfl (hR.trans (b9.mono hR.size)) (a27Sp_up b9)
        · cases ho
          have e0 : a'.tmps.getD 167 undef = .agg #[.string pt, .string idn] := hdep 3 (by kernel_rfl)
          have e0' : a'.tmps[167]?.getD undef = .agg #[.string pt, .string idn] := by simpa using e0
          have e1 : a'.tmps.getD 175 undef = .agg #[.string sAction, .string ai] := hdep 11 (by kernel_rfl)
          have e1' : a'.tmps[175]?.getD undef = .agg #[.string sAction, .string ai] := by simpa using e1
          have e2 : a'.tmps.getD 179 undef = .agg #[.string rt, .string idn] := hdep 15 (by kernel_rfl)
          have e2' : a'.tmps[179]?.getD undef = .agg #[.string rt, .string idn] := by simpa using e2
          clear rr0 rr1 rr2
          unfold Oper.wp
          go_simp
          exact hK _ _ rfl hR (fun _ _ h => h)
        · cases ho
          clear rr0 rr1 rr2
          unfold Oper.wp
          go_simp
          exact hK _ _ ⟨w'.heap.size, rfl, Nat.le_trans hzw hR.size, alloc_heap _ _⟩ (hR.alloc hR.size _) (a27Sp_up (blw1 _ _))
      · intro v w' hR hall
        have f0 := hall 0 (by decide)
        have f1 := hall 1 (by decide)
        have f2 := hall 2 (by decide)
        have f3 := hall 3 (by decide)
        obtain ⟨bb4, f4, _⟩ := hall 4 (by decide)
        have f5 := hall 5 (by decide)
        have f6 := hall 6 (by decide)
        have f7 := hall 7 (by decide)
        have f8 := hall 8 (by decide)
        obtain ⟨bb9, f9, _⟩ := hall 9 (by decide)
        have f10 := hall 10 (by decide)
        have f11 := hall 11 (by decide)
        have f12 := hall 12 (by decide)
        have f13 := hall 13 (by decide)
        have f14 := hall 14 (by decide)
        have f15 := hall 15 (by decide)
        have f16 := hall 16 (by decide)
        obtain ⟨V, f17, hVz, hV⟩ := hall 17 (by decide)
        unfold a27Sp at f0 f1 f2 f3 f5 f6 f7 f8 f10 f11 f12 f13 f14 f15 f16
        have d0 : w'.cell? ⟨V, 0, none⟩ = some (.string ⟨#[]⟩) := by rw [Lib.cell_of_heap hV]; rfl
        have d1 : w'.cell? ⟨V, 1, none⟩ = some (.string ⟨#[]⟩) := by rw [Lib.cell_of_heap hV]; rfl
        have d2 : w'.cell? ⟨V, 2, none⟩ = some (.string ⟨#[]⟩) := by rw [Lib.cell_of_heap hV]; rfl
        have d3 : w'.cell? ⟨V, 3, none⟩ = some (.string ⟨#[]⟩) := by rw [Lib.cell_of_heap hV]; rfl
        have d4 : w'.cell? ⟨V, 4, none⟩ = some (.string ⟨#[]⟩) := by rw [Lib.cell_of_heap hV]; rfl
        have d5 : w'.cell? ⟨V, 5, none⟩ = some (.string ⟨#[]⟩) := by rw [Lib.cell_of_heap hV]; rfl
        have df := fun o => Lib.frozen_of_heap hV o
        have HQ := hide (put6 (w := w') (V := V) (.string pt) (.string idn) (.string sAction) (.string ai) (.string rt) (.string idn) hV)
        have HB6 := hide (below6 (w := w') (V := V) (.string pt) (.string idn) (.string sAction) (.string ai) (.string rt) (.string idn) hR hVz)
        clear hV hall
        simp only [putAll, dstOf, List.getElem?_cons_zero, List.getElem?_cons_succ, Option.bind_some, List.drop_succ_cons, List.drop_zero, f0, f1, f2, f3, f4, f5, f6, f7, f8, f9, f10, f11, f12, f13, f14, f15, f16, f17]
        clear f0 f1 f2 f3 f4 f5 f6 f7 f8 f9 f10 f11 f12 f13 f14 f15 f16 f17
        simp only [Act.put, List.setIfInBounds_toArray, List.set_cons_succ, List.set_cons_zero]
        go_upto_region 28 with fail
        clear d0 d1 d2 d3 d4 d5 df
        have hq := unhide HQ
        have bq := unhide HB6
        clear HQ HB6
        generalize (((((w'.setCell _ _).setCell _ _).setCell _ _).setCell _ _).setCell _ _).setCell _ _ = w6 at *
        have rr3 := (bq.cell (p := ⟨rg, roff + 3, none⟩) hrg).trans rc3
        go_upto_if 185 with fail
        clear rr3
        obtain ⟨tt, htt⟩ : ∃ tt, tt = (t3.tmod 9 == 8) := ⟨_, rfl⟩
        rw [← htt]
        clear htt
        go_cut [] from 29 (fun wc => wc.heap[V]? = some (.cells #[.string pt, .string idn, .string (if tt then userB else sAction), .string ai, .string rt, .string idn] 58 (0, 0)) ∧ Below wM.heap.size wM wc)
        case first =>
          cases tt
          · go_wp2_with fail
            go_meet
            case rel => exact ⟨hq, bq⟩
          · have q2 : w6.cell? ⟨V, 2, none⟩ = some (.string sAction) := by rw [Lib.cell_of_heap hq]; rfl
            have fq : w6.frozen? ⟨V, 2, none⟩ = false := Lib.frozen_of_heap hq 2
            have hq2 := heap_setCell_same w6 V 2 _ _ (.string userB) hq
            have bq2 := bq.setCell (p := ⟨V, 2, none⟩) hVz (.string userB)
            have HH := hide (And.intro hq2 bq2)
            clear hq2 bq2
            unfold userB at *
            go_wp2_with fail
            go_meet
            case rel => exact unhide HH
        case rest =>
          rename World => w7
          obtain ⟨hq7, b7⟩ := hcut
          generalize (if tt then userB else sAction) = at_ at *
          have HB7 := kept_of_below b7 HBsM
          have CF1 := fun w' (hb : Below w7.heap.size w7 w') => mfits_any G _ ⟨pt, idn, at_, ai, rt, idn⟩ w' (by have := hfewG.ac; omega) (unhide HSA) (hSM.is.below (b7.trans (hb.mono b7.size)))
          have CF2 := fun w' (hb : Below w7.heap.size w7 w') => rfits_any G _ ⟨pt, idn, at_, ai, rt, idn⟩ w' (by have := hfewG.ac; omega) (unhide HSA) (hSM.is.below (b7.trans (hb.mono b7.size)))
          unfold Q6.val at CF1 CF2
          simp only at CF1 CF2
          generalize fitsC G ⟨pt, idn, at_, ai, rt, idn⟩ = FC at *
          have fcc : (FC == FC) = true := by simp
          have b07 := b0M.trans (b7.mono b0M.size)
          go_upto_region 30 with fail
          refine wp_specsD (SpL [.agg #[.slice sko G.ks.length skc, .slice sao G.ac.length sac], .agg #[.string pt, .string idn, .string at_, .string ai, .string rt, .string idn], .int .i64 FC, .agg #[.slice sko G.ks.length skc, .slice sao G.ac.length sac], .agg #[.string pt, .string idn, .string at_, .string ai, .string rt, .string idn], .int .i64 FC, .bool true, .bool true]) (fun _ _ w' => Below w7.heap.size w7 w') (by kernel_rfl) (by kernel_rfl) (by kernel_rfl) (Below.refl _ w7).drew ?_ ?_ ?_
          · intro q o d ho hd L a' w' hL hw hRR hdep hslot hsz K hK
            have hqN : q < 8 := dstOf_lt hd
            have m7 := kept_of_below hRR HB7
            have mq := kept_of_below hRR hq7
            have s0 : w'.cell? ⟨w2.heap.size, 0, none⟩ = some (.slice sko G.ks.length skc) := by rw [Lib.cell_of_heap m7]; rfl
            have s1 : w'.cell? ⟨w2.heap.size, 1, none⟩ = some (.slice sao G.ac.length sac) := by rw [Lib.cell_of_heap m7]; rfl
            have q0 : w'.cell? ⟨V, 0, none⟩ = some (.string pt) := by rw [Lib.cell_of_heap mq]; rfl
            have q1 : w'.cell? ⟨V, 1, none⟩ = some (.string idn) := by rw [Lib.cell_of_heap mq]; rfl
            have q2 : w'.cell? ⟨V, 2, none⟩ = some (.string at_) := by rw [Lib.cell_of_heap mq]; rfl
            have q3 : w'.cell? ⟨V, 3, none⟩ = some (.string ai) := by rw [Lib.cell_of_heap mq]; rfl
            have q4 : w'.cell? ⟨V, 4, none⟩ = some (.string rt) := by rw [Lib.cell_of_heap mq]; rfl
            have q5 : w'.cell? ⟨V, 5, none⟩ = some (.string idn) := by rw [Lib.cell_of_heap mq]; rfl
            clear m7 mq
            have hs11 : a'.tmps.getD 11 undef = .pointer (some ⟨w2.heap.size, 0, none⟩) := hslot 11 (fun q h => by have hl := dstOf_lt h; match q, hl with | 0, _ => cases h | 1, _ => cases h | 2, _ => cases h | 3, _ => cases h | 4, _ => cases h | 5, _ => cases h | 6, _ => cases h | 7, _ => cases h)
            have hs28 : a'.tmps.getD 28 undef = .pointer (some ⟨V, 0, none⟩) := hslot 28 (fun q h => by have hl := dstOf_lt h; match q, hl with | 0, _ => cases h | 1, _ => cases h | 2, _ => cases h | 3, _ => cases h | 4, _ => cases h | 5, _ => cases h | 6, _ => cases h | 7, _ => cases h)
            have hc : q = 0 ∨ q = 1 ∨ q = 2 ∨ q = 3 ∨ q = 4 ∨ q = 5 ∨ q = 6 ∨ q = 7 := by omega
            rcases hc with rfl | rfl | rfl | rfl | rfl | rfl | rfl | rfl
            · cases ho
              cases hd
              have e0 := hs11
              clear q0 q1 q2 q3 q4 q5
              unfold Oper.wp
              go_simp
              exact hK _ _ rfl hRR (fun _ _ h => h)
            · cases ho
              cases hd
              have e0 := hs28
              clear s0 s1
              unfold Oper.wp
              go_simp
              exact hK _ _ rfl hRR (fun _ _ h => h)
            · cases ho
              cases hd
              have e0 : a'.tmps.getD 188 undef = .agg #[.slice sko G.ks.length skc, .slice sao G.ac.length sac] := hdep 0 188 rfl (by kernel_rfl)
              have e0' : a'.tmps[188]?.getD undef = .agg #[.slice sko G.ks.length skc, .slice sao G.ac.length sac] := by simpa using e0
              have e1 : a'.tmps.getD 189 undef = .agg #[.string pt, .string idn, .string at_, .string ai, .string rt, .string idn] := hdep 1 189 rfl (by kernel_rfl)
              have e1' : a'.tmps[189]?.getD undef = .agg #[.string pt, .string idn, .string at_, .string ai, .string rt, .string idn] := by simpa using e1
              clear s0 s1 q0 q1 q2 q3 q4 q5
              unfold Oper.wp
              go_simp
              refine (CF1 w' hRR).mono ?_
              rintro e w9 ⟨rfl, b9⟩
              exact hK _ _ rfl (hRR.trans (b9.mono hRR.size)) (fun _ _ h => h)
            · cases ho
              cases hd
              have e0 := hs11
              clear q0 q1 q2 q3 q4 q5
              unfold Oper.wp
              go_simp
              exact hK _ _ rfl hRR (fun _ _ h => h)
            · cases ho
              cases hd
              have e0 := hs28
              clear s0 s1
              unfold Oper.wp
              go_simp
              exact hK _ _ rfl hRR (fun _ _ h => h)
            · cases ho
              cases hd
              have e0 : a'.tmps.getD 191 undef = .agg #[.slice sko G.ks.length skc, .slice sao G.ac.length sac] := hdep 3 191 rfl (by kernel_rfl)
              have e0' : a'.tmps[191]?.getD undef = .agg #[.slice sko G.ks.length skc, .slice sao G.ac.length sac] := by simpa using e0
              have e1 : a'.tmps.getD 192 undef = .agg #[.string pt, .string idn, .string at_, .string ai, .string rt, .string idn] := hdep 4 192 rfl (by kernel_rfl)
              have e1' : a'.tmps[192]?.getD undef = .agg #[.string pt, .string idn, .string at_, .string ai, .string rt, .string idn] := by simpa using e1
              clear s0 s1 q0 q1 q2 q3 q4 q5
              unfold Oper.wp
              go_simp
              refine (CF2 w' hRR).mono ?_
              rintro e w9 ⟨rfl, b9⟩
              exact hK _ _ rfl (hRR.trans (b9.mono hRR.size)) (fun _ _ h => h)
            · cases ho
              cases hd
              have e0 : a'.tmps.getD 190 undef = .int .i64 FC := hdep 2 190 rfl (by kernel_rfl)
              have e0' : a'.tmps[190]?.getD undef = .int .i64 FC := by simpa using e0
              have e1 : a'.tmps.getD 193 undef = .int .i64 FC := hdep 5 193 rfl (by kernel_rfl)
              have e1' : a'.tmps[193]?.getD undef = .int .i64 FC := by simpa using e1
              clear s0 s1 q0 q1 q2 q3 q4 q5
              unfold Oper.wp
              go_simp
              exact hK _ _ rfl hRR (fun _ _ h => h)
            · cases ho
              cases hd
              have e0 : a'.tmps.getD 194 undef = .bool true := hdep 6 194 rfl (by kernel_rfl)
              have e0' : a'.tmps[194]?.getD undef = .bool true := by simpa using e0
              clear s0 s1 q0 q1 q2 q3 q4 q5
              unfold Oper.wp
              go_simp
              exact hK _ _ rfl hRR (fun _ _ h => h)
          · intro q o ho hd L a' w' hL hw hRR hdep K hK
            have hqN : q < 8 := (List.getElem?_eq_some_iff.1 ho).1
            have m7 := kept_of_below hRR HB7
            have mq := kept_of_below hRR hq7
            have s0 : w'.cell? ⟨w2.heap.size, 0, none⟩ = some (.slice sko G.ks.length skc) := by rw [Lib.cell_of_heap m7]; rfl
            have s1 : w'.cell? ⟨w2.heap.size, 1, none⟩ = some (.slice sao G.ac.length sac) := by rw [Lib.cell_of_heap m7]; rfl
            have q0 : w'.cell? ⟨V, 0, none⟩ = some (.string pt) := by rw [Lib.cell_of_heap mq]; rfl
            have q1 : w'.cell? ⟨V, 1, none⟩ = some (.string idn) := by rw [Lib.cell_of_heap mq]; rfl
            have q2 : w'.cell? ⟨V, 2, none⟩ = some (.string at_) := by rw [Lib.cell_of_heap mq]; rfl
            have q3 : w'.cell? ⟨V, 3, none⟩ = some (.string ai) := by rw [Lib.cell_of_heap mq]; rfl
            have q4 : w'.cell? ⟨V, 4, none⟩ = some (.string rt) := by rw [Lib.cell_of_heap mq]; rfl
            have q5 : w'.cell? ⟨V, 5, none⟩ = some (.string idn) := by rw [Lib.cell_of_heap mq]; rfl
            clear m7 mq
            have hc : q = 0 ∨ q = 1 ∨ q = 2 ∨ q = 3 ∨ q = 4 ∨ q = 5 ∨ q = 6 ∨ q = 7 := by omega
            rcases hc with rfl | rfl | rfl | rfl | rfl | rfl | rfl | rfl
            · cases hd
            · cases hd
            · cases hd
            · cases hd
            · cases hd
            · cases hd
            · cases hd
            · cases hd
          · intro v L w' hLa hRR hv
            have f0 : v 0 = .agg #[.slice sko G.ks.length skc, .slice sao G.ac.length sac] := (hv 0 188 rfl).1
            have f1 : v 1 = .agg #[.string pt, .string idn, .string at_, .string ai, .string rt, .string idn] := (hv 1 189 rfl).1
            have f2 : v 2 = .int .i64 FC := (hv 2 190 rfl).1
            have f3 : v 3 = .agg #[.slice sko G.ks.length skc, .slice sao G.ac.length sac] := (hv 3 191 rfl).1
            have f4 : v 4 = .agg #[.string pt, .string idn, .string at_, .string ai, .string rt, .string idn] := (hv 4 192 rfl).1
            have f5 : v 5 = .int .i64 FC := (hv 5 193 rfl).1
            have f6 : v 6 = .bool true := (hv 6 194 rfl).1
            have f7 : v 7 = .bool true := (hv 7 10 rfl).1
            have bZ := hRR
            clear hRR hv hLa
            simp only [putAll, dstOf, List.getElem?_cons_zero, List.getElem?_cons_succ, Option.bind_some, List.length_cons, List.length_nil, f0, f1, f2, f3, f4, f5, f6, f7]
            clear f0 f1 f2 f3 f4 f5 f6 f7
            simp only [Act.put, List.setIfInBounds_toArray, List.set_cons_succ, List.set_cons_zero]
            have b0Z := b07.trans (bZ.mono b07.size)
            go_wp2
            go_ret
            exact ⟨rfl, b0Z⟩
end Go.Proofs.Ytbcddjaecdoliaa
