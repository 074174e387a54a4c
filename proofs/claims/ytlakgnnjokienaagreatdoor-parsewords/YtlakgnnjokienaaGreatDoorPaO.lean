/-
  Plain: no rule leaves more tokens than there were.
-/
import Derived.Test.YtlakgnnjokienaaGreatDoorPlainAll
namespace Go.Proofs.YtlakgnnjokienaaGreatDoor
open Go

theorem short_bind {α β : Type} {o : Rs α} {f : α × List Tok → Rs β} {n : Nat} (ho : ∀ x r, o = some (x, r) → r.length ≤ n) (hf : ∀ p x r, f p = some (x, r) → r.length ≤ p.2.length) : ∀ x r, o.bind f = some (x, r) → r.length ≤ n := by
  intro x r h
  cases o with
  | none => cases h
  | some p => exact Nat.le_trans (hf p x r h) (ho p.1 p.2 rfl)
theorem short_map {α β : Type} {o : Rs α} {g : α × List Tok → β × List Tok} {n : Nat} (ho : ∀ x r, o = some (x, r) → r.length ≤ n) (hg : ∀ p, (g p).2 = p.2) : ∀ x r, o.map g = some (x, r) → r.length ≤ n := by
  intro x r h
  cases o with
  | none => cases h
  | some p =>
    have h' : g p = (x, r) := Option.some.inj h
    have := hg p
    rw [h'] at this
    have e : r = p.2 := this
    rw [e]
    exact ho p.1 p.2 rfl
theorem short_mapH {α β : Type} {o : Rs α} {g : α × List Tok → β × List Tok} {n : Nat} {x : β} {r : List Tok} (h : o.map g = some (x, r)) (ho : ∀ x r, o = some (x, r) → r.length ≤ n) (hg : ∀ p, (g p).2 = p.2) : r.length ≤ n := short_map ho hg x r h
theorem short_need {β : Type} {o : Option (List Tok)} {g : List Tok → β × List Tok} {n : Nat} (ho : ∀ r, o = some r → r.length ≤ n) (hg : ∀ r, (g r).2 = r) : ∀ x r, o.map g = some (x, r) → r.length ≤ n := by
  intro x r h
  cases o with
  | none => cases h
  | some p =>
    have h' : g p = (x, r) := Option.some.inj h
    have := hg p
    rw [h'] at this
    have e : r = p := this
    rw [e]
    exact ho p rfl
theorem short_bindN {β : Type} {o : Option (List Tok)} {f : List Tok → Rs β} {n : Nat} (ho : ∀ r, o = some r → r.length ≤ n) (hf : ∀ q x r, f q = some (x, r) → r.length ≤ q.length) : ∀ x r, o.bind f = some (x, r) → r.length ≤ n := by
  intro x r h
  cases o with
  | none => cases h
  | some p => exact Nat.le_trans (hf p x r h) (ho p rfl)
theorem tl (ts : List Tok) : ts.tail.length ≤ ts.length := by simp
theorem short_tail {α : Type} {E : Pr α} (h : Short E) (ts : List Tok) : ∀ x r, E ts.tail = some (x, r) → r.length ≤ ts.length := fun _ _ e => Nat.le_trans (h _ _ _ e) (tl ts)

theorem uidP_short : Short uidP := fun ts => short_bind (need_short 1 ts) fun _ => short_bindN (fun _ => needS_short) fun q => short_map (need_short 3 q) fun _ => rfl
theorem wordOf_short (a : List UInt8) (r : List Tok) : ∀ x r', wordOf a r = some (x, r') → r'.length ≤ r.length := by
  intro x r' h
  unfold wordOf at h
  split at h
  · cases h; exact Nat.le_refl _
  · split at h
    · cases h; exact Nat.le_refl _
    · split at h
      · cases h; exact Nat.le_refl _
      · cases h
theorem wordedP_short : Short wordedP := fun ts => short_bind (need_short 1 ts) fun p => wordOf_short p.1.s p.2
theorem leafP_short : Short leafP := by
  intro ts x r h
  unfold leafP at h
  split at h
  · cases h; exact tl ts
  · split at h
    · cases h; exact tl ts
    · exact wordedP_short ts x r h
theorem listL_short {α : Type} {E : Pr α} (hE : Short E) : ∀ (n : Nat) (acc : List α), Short (listL E n acc)
  | 0, _, _, _, _, h => by cases h
  | n + 1, acc, ts, x, r, h => by
    rw [listL] at h
    split at h
    · exact short_bind (short_tail hE ts) (fun p => listL_short hE n (acc ++ [p.1]) p.2) x r h
    · cases h; exact Nat.le_refl _
theorem listOfP_short {α : Type} {E : Pr α} (hE : Short E) : Short (listOfP E) := fun ts => short_bind (hE ts) fun p => listL_short hE _ _ p.2
theorem listUpP_short {α : Type} {E : Pr α} (hE : Short E) (z : List UInt8) : Short (listUpP E z) := by
  intro ts x r h
  unfold listUpP at h
  split at h
  · cases h; exact tl ts
  · exact short_bind (listOfP_short hE ts) (fun _ => short_need (fun _ => needS_short) fun _ => rfl) x r h
theorem primP_short {E : Pr Ex} (hE : Short E) : Short (primP E) := by
  intro ts x r h
  unfold primP at h
  split at h
  · exact short_mapH h (uidP_short ts) (fun _ => rfl)
  · split at h
    · exact short_bind (short_tail hE ts) (fun _ => short_need (fun _ => needS_short) fun _ => rfl) x r h
    · split at h
      · exact short_mapH h (short_tail (listUpP_short hE [93]) ts) (fun _ => rfl)
      · exact leafP_short ts x r h
theorem memberP_short {E : Pr Ex} (hE : Short E) (of : Ex) : Short (memberP E of) := by
  intro ts
  refine short_bind (need_short 1 ts) fun p x r h => ?_
  split at h
  · split at h
    · exact short_bind (short_tail hE p.2) (fun _ => short_need (fun _ => needS_short) fun _ => rfl) x r h
    · cases h
  · cases h; exact Nat.le_refl _
theorem memL_short {E : Pr Ex} (hE : Short E) : ∀ (n : Nat) (y : Ex), Short (memL E n y)
  | 0, _, _, _, _, h => by cases h
  | n + 1, y, ts, x, r, h => by
    rw [memL] at h
    split at h
    · exact short_bind (short_tail (memberP_short hE y) ts) (fun p => memL_short hE n p.1 p.2) x r h
    · cases h; exact Nat.le_refl _
theorem memP_short {E : Pr Ex} (hE : Short E) : Short (memP E) := fun ts => short_bind (primP_short hE ts) fun p => memL_short hE _ _ p.2
theorem unN_short {E : Pr Ex} (hE : Short E) : ∀ (n : Nat), Short (unN E n)
  | 0, _, _, _, h => by cases h
  | n + 1, ts, x, r, h => by
    rw [unN] at h
    split at h
    · unfold op1 at h
      exact short_mapH h (short_tail (unN_short hE n) ts) (fun _ => rfl)
    · split at h
      · unfold op1 at h
        exact short_mapH h (short_tail (unN_short hE n) ts) (fun _ => rfl)
      · exact memP_short hE ts x r h
theorem unP_short {E : Pr Ex} (hE : Short E) : Short (unP E) := fun ts => unN_short hE _ ts
theorem binL_short {l : List (Int × List UInt8 × Int)} {E : Pr Ex} (hE : Short E) : ∀ (n : Nat) (y : Ex), Short (binL l E n y)
  | 0, _, _, _, _, h => by cases h
  | n + 1, y, ts, x, r, h => by
    rw [binL] at h
    split at h
    · cases h; exact Nat.le_refl _
    · exact short_bind (short_tail hE ts) (fun p => binL_short hE n _ p.2) x r h
theorem binP_short {l : List (Int × List UInt8 × Int)} {E : Pr Ex} (hE : Short E) : Short (binP l E) := fun ts => short_bind (hE ts) fun p => binL_short hE _ _ p.2
theorem mulP_short {E : Pr Ex} (hE : Short E) : Short (mulP E) := binP_short (unP_short hE)
theorem addP_short {E : Pr Ex} (hE : Short E) : Short (addP E) := binP_short (mulP_short hE)
theorem relT_short {E : Pr Ex} (hE : Short E) (y : Ex) : Short (relT E y) := by
  intro ts x r h
  unfold relT at h
  split at h
  · unfold op2 at h
    exact short_mapH h (short_tail (addP_short hE) ts) (fun _ => rfl)
  · split at h
    · exact short_mapH h (short_tail (need_short 1) ts) (fun _ => rfl)
    · split at h
      · exact short_mapH h (short_tail (need_short 3) ts) (fun _ => rfl)
      · cases h; exact Nat.le_refl _
theorem relP_short {E : Pr Ex} (hE : Short E) : Short (relP E) := fun ts => short_bind (addP_short hE ts) fun p => relT_short hE p.1 p.2
theorem andP_short {E : Pr Ex} (hE : Short E) : Short (andP E) := binP_short (relP_short hE)
theorem orP_short {E : Pr Ex} (hE : Short E) : Short (orP E) := binP_short (andP_short hE)
theorem ifP_short {E : Pr Ex} (hE : Short E) : Short (ifP E) := fun ts =>
  short_bind (hE ts) fun _ => short_bindN (fun _ => needW_short) fun q => short_bind (hE q) fun _ => short_bindN (fun _ => needW_short) fun q' => short_map (hE q') fun _ => rfl
theorem exprP_short {E : Pr Ex} (hE : Short E) : Short (exprP E) := by
  intro ts x r h
  unfold exprP at h
  split at h
  · exact orP_short hE ts x r h
  · exact short_tail (ifP_short hE) ts x r h
theorem exprN_short : ∀ n, Short (exprN n)
  | 0, _, _, _, h => by cases h
  | n + 1, ts, x, r, h => exprP_short (exprN_short n) ts x r h
end Go.Proofs.YtlakgnnjokienaaGreatDoor
