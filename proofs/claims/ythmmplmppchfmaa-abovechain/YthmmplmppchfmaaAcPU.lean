/-
  Plain: who is above whom when one is put among entities; steps without one.
  What the operations of a region answer; a place that is made and filled (no walk in it).
  chancellaw9.pick: what it returns.
  chancellaw9.AboveCircles: a row of uids that grows in an entity's place.
  chancellaw9.AboveMore, plain: a parent more takes nobody away; rows of uids laid one behind the other.
-/
import Derived.Test.YthmmplmppchfmaaMrLM
import Derived.Test.YthmmplmppchfmaaMqB
import Derived.Test.YthmmplmppchfmaaEfoP
import Derived.Test.YthmmplmppchfmaaVeMP
import Derived.Test.YthmmplmppchfmaaWorlds
import Derived.Test.YthmmplmppchfmaaRwAL
import Derived.Maps.AppendAt
namespace Go.Proofs.Ythmmplmppchfmaa
open Go.RowKit Go.Sort

theorem ac1 (w : World) (o : Obj) : Below w.heap.size w (w.alloc o) := (Below.refl _ w).alloc (Nat.le_refl _) o
theorem mem_upS_put {ps : List EntP} (hr : RisingP ps) (p : EntP) (x v : U2) : v ∈ upS (putP ps p) x ↔ (x = p.u ∧ v ∈ p.ps) ∨ (x ≠ p.u ∧ v ∈ upS ps x) := by
  rw [mem_upS (rising_nodup (rising_put hr)), mem_upS (rising_nodup hr)]
  constructor
  · rintro ⟨q, hq, rfl, hv⟩
    rcases mem_put.1 hq with rfl | ⟨hq, hn⟩
    · exact .inl ⟨rfl, hv⟩
    · exact .inr ⟨hn, q, hq, rfl, hv⟩
  · rintro (⟨rfl, hv⟩ | ⟨hn, q, hq, rfl, hv⟩)
    · exact ⟨p, mem_put.2 (.inl rfl), rfl, hv⟩
    · exact ⟨q, mem_put.2 (.inr ⟨hq, hn⟩), rfl, hv⟩
theorem way_sub {S T : U2 → List U2} (h : ∀ x, ∀ v ∈ S x, v ∈ T x) {a b : U2} (hw : Way S a b) : Way T a b := by
  induction hw with
  | here => exact .here _
  | step _ hx ih => exact .step ih (h _ _ hx)
/-- The steps, but those of u. -/
def cutS (S : U2 → List U2) (u : U2) : U2 → List U2 := fun x => if x = u then [] else S x
/-- A circle by what stands without u is one by what stands with u's parents. -/
theorem circle_put {ps : List EntP} (hr : RisingP ps) (u : U2) (pl : List U2) : (∃ f ∈ pl, Way (cutS (upS ps) u) f u) ↔ ∃ f ∈ upS (putP ps ⟨u, pl, []⟩) u, Way (upS (putP ps ⟨u, pl, []⟩)) f u := by
  have hT := fun x v => mem_upS_put hr ⟨u, pl, []⟩ x v
  simp only at hT
  generalize upS (putP ps ⟨u, pl, []⟩) = T at *
  constructor
  · rintro ⟨f, hf, hw⟩
    refine ⟨f, (hT u f).2 (.inl ⟨rfl, hf⟩), way_sub (fun x v hv => ?_) hw⟩
    unfold cutS at hv
    split at hv
    · cases hv
    · rename_i hn
      exact (hT x v).2 (.inr ⟨hn, hv⟩)
  · rintro ⟨f, hf, hw⟩
    have hfp : f ∈ pl := by
      rcases (hT u f).1 hf with ⟨_, h⟩ | ⟨h, _⟩
      · exact h
      · exact absurd rfl h
    refine ⟨f, hfp, ?_⟩
    have key : ∀ {y : U2}, Way T f y → Way (cutS (upS ps) u) f y ∨ Way (cutS (upS ps) u) f u := by
      intro y hy
      induction hy with
      | here => exact .inl (.here _)
      | @step v x h hx ih =>
        rcases ih with ih | ih
        · by_cases hv : v = u
          · rw [hv] at ih
            exact .inr ih
          · refine .inl (.step ih ?_)
            unfold cutS
            rw [if_neg hv]
            rcases (hT v x).1 hx with ⟨h, _⟩ | ⟨_, h⟩
            · exact absurd h hv
            · exact h
        · exact .inr ih
    exact (key hw).elim id id
theorem delM_filter (u : U2) : ∀ (M : List (U2 × Value)), (M.map Prod.fst).Nodup → delM M u = M.filter fun p => !decide (u = p.1)
  | [], _ => rfl
  | q :: M, hn => by
    have hn' := List.nodup_cons.1 hn
    have ih := delM_filter u M hn'.2
    unfold delM at ih ⊢
    rw [List.findIdx?_cons, List.filter_cons]
    by_cases hu : u = q.1
    · simp only [hu, decide_true, Bool.not_true]
      show M = _
      rw [if_neg (by decide)]
      refine (List.filter_eq_self.2 fun p hp => ?_).symm
      have : q.1 ≠ p.1 := fun e => hn'.1 (by rw [e]; exact List.mem_map_of_mem hp)
      simp [this]
    · simp only [hu, decide_false, Bool.not_false, if_true]
      cases hf : M.findIdx? fun p => decide (u = p.1) with
      | none =>
        rw [hf] at ih
        simp only [Option.map_none] at ih ⊢
        rw [← ih]
        simp
      | some i =>
        rw [hf] at ih
        simp only [Option.map_some] at ih ⊢
        rw [← ih]
        simp
theorem look_snd (u : U2) : ∀ (M : List (U2 × Value)), (lookM M u).map Prod.snd = (M.find? fun p => decide (u = p.1)).map Prod.snd
  | [] => rfl
  | q :: M => by
    have ih := look_snd u M
    unfold lookM at ih ⊢
    rw [List.findIdx?_cons, List.find?_cons]
    by_cases hu : u = q.1
    · simp [hu]
    · simp only [hu, decide_false]
      rw [← ih]
      cases hf : M.findIdx? fun p => decide (u = p.1) with
      | none => simp
      | some i => simp
theorem got_snd {M N : List (U2 × Value)} {u v : U2} (z : Value) (h : (lookM M u).map Prod.snd = (lookM N v).map Prod.snd) : gotM false z (lookM M u) = gotM false z (lookM N v) := by
  cases hm : lookM M u with
  | none =>
    rw [hm] at h
    cases hn : lookM N v with
    | none => rfl
    | some q => rw [hn] at h; cases h
  | some p =>
    rw [hm] at h
    cases hn : lookM N v with
    | none => rw [hn] at h; cases h
    | some q =>
      rw [hn] at h
      simp only [Option.map_some, Option.some.injEq] at h
      show p.2 = q.2
      exact h
/-- Steps up without one, in memory. -/
theorem steps_del {w : World} {P : Nat → Prop} {es : List E4} {ps : List EntP} (h : AllEnt w P es ps) (hr : (ps.map EntP.u).Nodup) (hl : ∀ p ∈ ps, p.ps.length ≤ 1000) (u : U2) : StepsR w w.heap.size (delM (upM es) u) (cutS (upS ps) u) := fun x => by
  have hk : ((upM es).map Prod.fst).Nodup := by
    rw [upM_map es (by rw [e4uM_all h]; exact hr), List.map_map]
    show (es.map e4uM).Nodup
    rw [e4uM_all h]
    exact hr
  unfold cutS
  by_cases hx : x = u
  · rw [if_pos hx]
    refine ⟨none, 0, ?_, fun j hj => absurd hj (Nat.not_lt_zero _), fun ad e _ => (by cases e), Nat.zero_le _⟩
    rw [lookM_none]
    · rfl
    · rw [delM_filter u _ hk]
      unfold hasM
      rw [List.any_eq_false]
      intro q hq hd
      have h1 := (List.mem_filter.1 hq).2
      have h2 : x = q.1 := by simpa using hd
      rw [← h2, hx] at h1
      simp at h1
  · rw [if_neg hx]
    obtain ⟨ao, c, h1, h2, h3, h4⟩ := steps_up h hr hl x
    refine ⟨ao, c, ?_, h2, h3, h4⟩
    rw [← h1]
    refine got_snd _ ?_
    rw [delM_filter u _ hk, look_snd, look_snd, List.find?_filter]
    congr 1
    congr 1
    funext p
    by_cases hp : x = p.1
    · have : u ≠ p.1 := fun e => hx (by rw [hp, e])
      simp [hp, this]
    · simp [hp]
end Go.Proofs.Ythmmplmppchfmaa

namespace Go.Proofs.Ythmmplmppchfmaa
open Go.RowKit Go.Sort

/-- What an operation answers: this value; a value by a block, not below B, that holds this; anything. -/
inductive Sv where
  | eq (v : Value)
  | blk (B : Nat) (f : Nat → Value) (o : Obj)
  | any
def Sv.sp : Sv → Value → World → Prop
  | .eq u, v, _ => v = u
  | .blk B f o, v, w => ∃ b, B ≤ b ∧ v = f b ∧ w.heap[b]? = some o
  | .any, _, _ => True
theorem Sv.up {w w' : World} (hb : Below w.heap.size w w') : ∀ (s : Sv) (v : Value), s.sp v w → s.sp v w'
  | .eq _, _, h => h
  | .blk _ _ _, _, ⟨b, hB, e, h⟩ => ⟨b, hB, e, kept_of_below hb h⟩
  | .any, _, _ => trivial
def SpS (l : List Sv) : Nat → Value → World → Prop := fun q v w => (l.getD q .any).sp v w
theorem SpS.up {l : List Sv} {w w' : World} (hb : Below w.heap.size w w') : ∀ q u, SpS l q u w → SpS l q u w' := fun _ _ h => Sv.up hb _ _ h
/-- No block that is spoken of is of the type T with n cells. -/
def Sv.not (n : Nat) (T : TypeId) : Sv → Bool
  | .blk _ _ (.cells c T' _) => decide (T' ≠ T) || decide (c.size ≠ n)
  | .blk _ _ _ => false
  | _ => true
theorem Sv.kept {n : Nat} {T : TypeId} {w w' : World} {V : Nat} {c : Array Value} {fz : Nat × Nat} (hV : w.heap[V]? = some (.cells c T fz)) (hc : c.size = n) (hk : ∀ b, b ≠ V → w'.heap[b]? = w.heap[b]?) : ∀ (s : Sv) (v : Value), s.not n T = true → s.sp v w → s.sp v w'
  | .eq _, _, _, h => h
  | .any, _, _, _ => trivial
  | .blk B f o, v, hn, ⟨b, hB, e, h⟩ => by
    refine ⟨b, hB, e, (hk b fun hb => ?_).trans h⟩
    rw [hb, hV] at h
    injection h with h
    subst h
    simp [Sv.not, hc] at hn
theorem SpS.kept {l : List Sv} (n : Nat) (T : TypeId) {w w' : World} {V : Nat} {c : Array Value} {fz : Nat × Nat} (hV : w.heap[V]? = some (.cells c T fz)) (hc : c.size = n) (hk : ∀ b, b ≠ V → w'.heap[b]? = w.heap[b]?) (hl : l.all (fun s => s.not n T) = true) : ∀ q u, SpS l q u w → SpS l q u w' := fun q u h => by
  refine Sv.kept hV hc hk _ _ ?_ h
  by_cases hq : q < l.length
  · rw [List.getD_eq_getElem?_getD, List.getElem?_eq_getElem hq]
    exact List.all_eq_true.1 hl _ (List.getElem_mem hq)
  · rw [List.getD_eq_getElem?_getD, List.getElem?_eq_none (by omega)]
    rfl
/-- A place is made, and filled so that F holds of it: what has been done of it. -/
structure GM (mk st s : Nat) (w0 : World) (z : Array Value) (T : TypeId) (F : Nat → World → Prop) (L : Nat → Bool) (a' : Act) (w' : World) : Prop where
  below : Below w0.heap.size w0 w'
  made : L mk = true → L st = false → ∃ V, a'.tmps.getD s undef = .pointer (some ⟨V, 0, none⟩) ∧ w0.heap.size ≤ V ∧ w'.heap[V]? = some (.cells z T (0, 0))
  full : L st = true → ∃ V, a'.tmps.getD s undef = .pointer (some ⟨V, 0, none⟩) ∧ w0.heap.size ≤ V ∧ F V w'
  ord : L st = true → L mk = true
section
variable {mk st s : Nat} {w0 : World} {z : Array Value} {T : TypeId} {F : Nat → World → Prop} {L : Nat → Bool} {a' : Act} {w' w'' : World}
theorem GM.start (a : Act) (w0 : World) : GM mk st s w0 z T F (fun _ => false) a w0.drew := ⟨(Below.refl _ _).drew, fun h => (by cases h), fun h => (by cases h), fun h => (by cases h)⟩
theorem GM.step (hF : ∀ V w w', Below w.heap.size w w' → F V w → F V w') (h : GM mk st s w0 z T F L a' w') (hb : Below w'.heap.size w' w'') (i d : Nat) (v : Value) (h1 : i ≠ mk) (h2 : i ≠ st) (hd : d ≠ s) : GM mk st s w0 z T F (fun j => decide (j = i) || L j) (a'.put (some d) v) w'' := by
  have e1 : (decide (mk = i) || L mk) = L mk := by simp [Ne.symm h1]
  have e2 : (decide (st = i) || L st) = L st := by simp [Ne.symm h2]
  refine ⟨h.below.trans (hb.mono h.below.size), ?_, ?_, ?_⟩ <;> simp only [e1, e2, put_other _ _ _ _ hd]
  · intro x y
    obtain ⟨V, x1, x2, x3⟩ := h.made x y
    exact ⟨V, x1, x2, kept_of_below hb x3⟩
  · intro x
    obtain ⟨V, x1, x2, x3⟩ := h.full x
    exact ⟨V, x1, x2, hF _ _ _ hb x3⟩
  · exact h.ord
theorem GM.alloc (h : GM mk st s w0 z T F L a' w') (hne : mk ≠ st) (hL : L mk = false) (hs : s < a'.tmps.size) : GM mk st s w0 z T F (fun j => decide (j = mk) || L j) (a'.put (some s) (.pointer (some ⟨w'.heap.size, 0, none⟩))) (w'.alloc (.cells z T)) := by
  have e2 : (decide (st = mk) || L st) = L st := by simp [Ne.symm hne]
  have no : L st = true → False := fun x => by
    have := h.ord x
    rw [hL] at this
    cases this
  exact ⟨h.below.alloc h.below.size _, fun _ _ => ⟨w'.heap.size, put_same _ _ _ hs, h.below.size, alloc_heap _ _⟩, fun x => (no (e2.symm.trans x)).elim, fun x => (no (e2.symm.trans x)).elim⟩
theorem GM.store (h : GM mk st s w0 z T F L a' w') (hA : L mk = true) (hL : L st = false) : ∃ V, a'.tmps.getD s undef = .pointer (some ⟨V, 0, none⟩) ∧ w0.heap.size ≤ V ∧ w'.heap[V]? = some (.cells z T (0, 0)) ∧ ∀ w'', Below w0.heap.size w0 w'' → F V w'' → GM mk st s w0 z T F (fun j => decide (j = st) || L j) a' w'' := by
  obtain ⟨V, x1, x2, x3⟩ := h.made hA hL
  exact ⟨V, x1, x2, x3, fun w'' hb hF => ⟨hb, fun _ q => (by simp at q), fun _ => ⟨V, x1, x2, hF⟩, fun _ => by simp [hA]⟩⟩
end
theorem ne_blocks {w : World} {b V : Nat} {c c' : Array Value} {T T' : TypeId} {fz fz' : Nat × Nat} (h : w.heap[b]? = some (.cells c T fz)) (h' : w.heap[V]? = some (.cells c' T' fz')) (hn : c.size ≠ c'.size) : b ≠ V := fun e => by
  rw [e, h'] at h
  injection h with h
  injection h with h
  exact hn (by rw [h])
theorem set3_keep (w : World) (V : Nat) (a b c : Value) : ∀ k, k ≠ V → (((w.setCell ⟨V, 0, none⟩ a).setCell ⟨V, 1, none⟩ b).setCell ⟨V, 2, none⟩ c).heap[k]? = w.heap[k]? := fun k y2 => (Below.heap_setCell _ ⟨V, 2, none⟩ _ k y2).trans ((Below.heap_setCell _ ⟨V, 1, none⟩ _ k y2).trans (Below.heap_setCell _ ⟨V, 0, none⟩ _ k y2))
theorem set3_below {w0 w : World} {V B : Nat} (a b c : Value) (hb : Below B w0 w) (hV : B ≤ V) : Below B w0 (((w.setCell ⟨V, 0, none⟩ a).setCell ⟨V, 1, none⟩ b).setCell ⟨V, 2, none⟩ c) := ((hb.setCell (p := ⟨V, 0, none⟩) hV _).setCell (p := ⟨V, 1, none⟩) hV _).setCell (p := ⟨V, 2, none⟩) hV _
end Go.Proofs.Ythmmplmppchfmaa

namespace Go.Proofs.Ythmmplmppchfmaa
open Go.RowKit Go.Sort

def pickE (p : EntP) (n : Int) : U2 := if n.tmod 3 = 0 ∧ 0 < p.ps.length then p.ps.getD ((wrap64 (n.tdiv 21)) % (p.ps.length : Int)).toNat ⟨⟨#[]⟩, ⟨#[]⟩⟩ else p.u
def pickP (ps : List EntP) (n : Int) : U2 :=
  if ps.length = 0 ∨ n.tmod 7 = 6 then (⟨ba (tyI5 n), ba (idt5 [])⟩ : U2)
  else pickE (ps.getD ((wrap64 (n.tdiv 7)) % (ps.length : Int)).toNat ⟨⟨⟨#[]⟩, ⟨#[]⟩⟩, [], []⟩) n

set_option maxHeartbeats 8000000 in
set_option maxRecDepth 1000000 in
theorem pick9_any (gs : List E4) (ps : List EntP) (go : Option Addr) (gcap : Nat) (n : Int) (w : World) (h : G9 w go gs ps) :
    Calls Try.prog 7 #[.slice go gs.length gcap, .int .i64 n] w fun e w' => e = .returned (.agg #[.string (pickP ps n).t, .string (pickP ps n).i]) ∧ Below w.heap.size w w' := by
  have b1 := ac1 w (.cells #[.string ⟨#[]⟩, .string ⟨#[]⟩] 28)
  have h1 := alloc_heap w (.cells #[.string ⟨#[]⟩, .string ⟨#[]⟩] 28)
  obtain ⟨pk, hpk0⟩ : ∃ pk, pk = pickP ps n := ⟨_, rfl⟩
  rw [← hpk0]
  have HX := hide hpk0
  clear hpk0
  go_enter Try.func7, Try.ntmps7
  go_upto_region 1 with fail
  generalize w.alloc _ = w1 at *
  obtain ⟨U0, hU0⟩ : ∃ U0, U0 = w.heap.size := ⟨_, rfl⟩
  rw [← hU0] at h1 ⊢
  have HU0 := hide hU0
  have HB1 := hide b1
  have HZ1 := hide h1
  clear b1 h1 hU0
  by_cases h0 : gs.length = 0
  · have g0 : ((gs.length : Int) == 0) = true := by rw [h0]; rfl
    have PKH : ps.length = 0 ∨ n.tmod 7 = 6 := .inl (by rw [← h.all.1]; exact h0)
    clear h h0
    generalize gs.length = M at *
    have hpk : pk = (⟨ba (tyI5 n), ba (idt5 [])⟩ : U2) := (unhide HX).trans (if_pos PKH)
    obtain ⟨u, hu⟩ : ∃ u, u = (⟨ba (tyI5 n), ba (idt5 [])⟩ : U2) := ⟨_, rfl⟩
    have HPK := hide (hpk.trans hu.symm)
    have C : Calls Try.prog 21 #[.int .i64 n, .slice none 0 0] w1 fun e w' => e = .returned (.agg #[.string u.t, .string u.i]) ∧ Below w1.heap.size w1 w' := by
      rw [hu]
      exact uid5_any n [] none 0 w1 (by decide) (by decide) (fun j hj => absurd hj (Nat.not_lt_zero _))
    clear hu hpk HX PKH
    go_wp2_with fail
    refine C.mono ?_
    clear C
    rintro e w2 ⟨rfl, b2⟩
    have kz := kept_of_below b2 (unhide HZ1)
    have z0 : w2.cell? ⟨U0, 0, none⟩ = some (.string ⟨#[]⟩) := by rw [Lib.cell_of_heap kz]; rfl
    have z1 : w2.cell? ⟨U0, 1, none⟩ = some (.string ⟨#[]⟩) := by rw [Lib.cell_of_heap kz]; rfl
    have zf : ∀ o, w2.frozen? ⟨U0, o, none⟩ = false := fun o => Lib.frozen_of_heap kz o
    have HRS := hide (heap_setCell_same _ U0 1 _ _ (.string u.i) (heap_setCell_same w2 U0 0 _ _ (.string u.t) kz))
    have HBE := hide (show Below w.heap.size w (w2.setCells U0 0 [.string u.t, .string u.i]) from belowSetCells (b := U0) [.string u.t, .string u.i] 0 w2 ((unhide HB1).trans (b2.mono (unhide HB1).size)) (by rw [unhide HU0]; exact Nat.le_refl _))
    clear kz
    clear b2
    go_wp2
    obtain ⟨wq, hwq⟩ : ∃ wq, wq = w2.setCells U0 0 [.string u.t, .string u.i] := ⟨_, rfl⟩
    have hres : (w2.setCells U0 0 [.string u.t, .string u.i]).heap[U0]? = some (.cells #[.string u.t, .string u.i] 28 (0, 0)) := unhide HRS
    have hbe := unhide HBE
    rw [← hwq] at hres hbe
    change bodyPost _ _ _ _ _ (w2.setCells U0 0 [.string u.t, .string u.i])
    rw [← hwq]
    clear hwq
    have q0 : wq.cell? ⟨U0, 0, none⟩ = some (.string u.t) := by rw [Lib.cell_of_heap hres]; rfl
    have q1 : wq.cell? ⟨U0, 1, none⟩ = some (.string u.i) := by rw [Lib.cell_of_heap hres]; rfl
    exact bodyPost_ret (v := .agg #[.string u.t, .string u.i]) (by simp [results, Try.results7, go_sem, q0, q1]) rfl ⟨by rw [unhide HPK], hbe⟩
  have g0 : ((gs.length : Int) == 0) = false := by
    rw [beq_eq_false_iff_ne]
    omega
  by_cases h7 : n.tmod 7 = 6
  · have g7 : (n.tmod 7 == 6) = true := by simpa using h7
    have PKH : ps.length = 0 ∨ n.tmod 7 = 6 := .inr h7
    clear h h0 h7
    generalize gs.length = M at *
    have hpk : pk = (⟨ba (tyI5 n), ba (idt5 [])⟩ : U2) := (unhide HX).trans (if_pos PKH)
    obtain ⟨u, hu⟩ : ∃ u, u = (⟨ba (tyI5 n), ba (idt5 [])⟩ : U2) := ⟨_, rfl⟩
    have HPK := hide (hpk.trans hu.symm)
    have C : Calls Try.prog 21 #[.int .i64 n, .slice none 0 0] w1 fun e w' => e = .returned (.agg #[.string u.t, .string u.i]) ∧ Below w1.heap.size w1 w' := by
      rw [hu]
      exact uid5_any n [] none 0 w1 (by decide) (by decide) (fun j hj => absurd hj (Nat.not_lt_zero _))
    clear hu hpk HX PKH
    go_wp2_with fail
    refine C.mono ?_
    clear C
    rintro e w2 ⟨rfl, b2⟩
    have kz := kept_of_below b2 (unhide HZ1)
    have z0 : w2.cell? ⟨U0, 0, none⟩ = some (.string ⟨#[]⟩) := by rw [Lib.cell_of_heap kz]; rfl
    have z1 : w2.cell? ⟨U0, 1, none⟩ = some (.string ⟨#[]⟩) := by rw [Lib.cell_of_heap kz]; rfl
    have zf : ∀ o, w2.frozen? ⟨U0, o, none⟩ = false := fun o => Lib.frozen_of_heap kz o
    have HRS := hide (heap_setCell_same _ U0 1 _ _ (.string u.i) (heap_setCell_same w2 U0 0 _ _ (.string u.t) kz))
    have HBE := hide (show Below w.heap.size w (w2.setCells U0 0 [.string u.t, .string u.i]) from belowSetCells (b := U0) [.string u.t, .string u.i] 0 w2 ((unhide HB1).trans (b2.mono (unhide HB1).size)) (by rw [unhide HU0]; exact Nat.le_refl _))
    clear kz
    clear b2
    go_wp2
    obtain ⟨wq, hwq⟩ : ∃ wq, wq = w2.setCells U0 0 [.string u.t, .string u.i] := ⟨_, rfl⟩
    have hres : (w2.setCells U0 0 [.string u.t, .string u.i]).heap[U0]? = some (.cells #[.string u.t, .string u.i] 28 (0, 0)) := unhide HRS
    have hbe := unhide HBE
    rw [← hwq] at hres hbe
    change bodyPost _ _ _ _ _ (w2.setCells U0 0 [.string u.t, .string u.i])
    rw [← hwq]
    clear hwq
    have q0 : wq.cell? ⟨U0, 0, none⟩ = some (.string u.t) := by rw [Lib.cell_of_heap hres]; rfl
    have q1 : wq.cell? ⟨U0, 1, none⟩ = some (.string u.i) := by rw [Lib.cell_of_heap hres]; rfl
    exact bodyPost_ret (v := .agg #[.string u.t, .string u.i]) (by simp [results, Try.results7, go_sem, q0, q1]) rfl ⟨by rw [unhide HPK], hbe⟩
  have g7 : (n.tmod 7 == 6) = false := by simpa using h7
  have PKN : ¬ (ps.length = 0 ∨ n.tmod 7 = 6) := by
    have := h.all.1
    omega
  have hlen : (0 : Nat) < gs.length := by omega
  have hpl : gs.length = ps.length := h.all.1
  obtain ⟨i0, hi0⟩ : ∃ i0 : Nat, (wrap64 (n.tdiv 7)) % (gs.length : Int) = i0 := ⟨((wrap64 (n.tdiv 7)) % (gs.length : Int)).toNat, by
    have := Int.emod_nonneg (wrap64 (n.tdiv 7)) (b := (gs.length : Int)) (by omega)
    omega⟩
  have hi : i0 < gs.length := by
    have := Int.emod_lt_of_pos (wrap64 (n.tdiv 7)) (b := (gs.length : Int)) (by omega)
    omega
  have WI := fun w' => within9_any (wrap64 (n.tdiv 7)) gs.length (by omega) (by have := h.len; omega) w'
  rw [hi0] at WI
  have hip : i0 < ps.length := by omega
  have hpk : pk = pickE ps[i0] n := by
    have e1 : (wrap64 (n.tdiv 7)) % (ps.length : Int) = i0 := by rw [← hpl]; exact hi0
    rw [unhide HX]
    unfold pickP
    rw [if_neg PKN, e1, List.getD_eq_getElem?_getD, show ((i0 : Int)).toNat = i0 from rfl, List.getElem?_eq_getElem hip]
    rfl
  have HIS := hide (h.all.2 i0 hi hip)
  have hp3 := h.gl.ps _ (List.getElem_mem hip)
  obtain ⟨p, hp⟩ : ∃ p, p = ps[i0] := ⟨_, rfl⟩
  rw [← hp] at HIS hp3 hpk
  have HPK := hide hpk
  have HP3 := hide (show p.ps.length ≤ 4294967296 by omega)
  obtain ⟨b, off, hgo, hb, hcx⟩ := rowG_at h.row (Below.refl w.heap.size w) hi
  have AT : AtE4 w b (off + i0 * 4) gs[i0] := AtE4.of hcx
  obtain ⟨x, hx⟩ : ∃ x, x = gs[i0] := ⟨_, rfl⟩
  rw [← hx] at AT HIS
  have a0 := ((unhide HB1).cell (p := ⟨b, off + i0 * 4, none⟩) hb).trans AT.c0
  have a1 := ((unhide HB1).cell (p := ⟨b, off + i0 * 4 + 1, none⟩) hb).trans AT.c1
  have a2 := ((unhide HB1).cell (p := ⟨b, off + i0 * 4 + 2, none⟩) hb).trans AT.c2
  have a3 := ((unhide HB1).cell (p := ⟨b, off + i0 * 4 + 3, none⟩) hb).trans AT.c3
  have k0 : (0 : Int) ≤ (i0 : Int) := by omega
  have k1 : (i0 : Int) < (gs.length : Int) := by omega
  clear hpk hp hx hcx AT hi0 hpl h hlen hip hp3 HX PKN
  subst hgo
  generalize gs.length = M at *
  go_wp2_with fail
  refine (WI _).mono ?_
  rintro e w2 ⟨rfl, hw2⟩
  subst hw2
  clear WI
  have b3 := ac1 w2 (.cells #[.string x.t, .string x.i, .slice x.po x.pl x.pc, .slice x.ao x.al x.ac] 40)
  have h3 := alloc_heap w2 (.cells #[.string x.t, .string x.i, .slice x.po x.pl x.pc, .slice x.ao x.al x.ac] 40)
  have HB4 := hide ((unhide HB1).trans (b3.mono (unhide HB1).size))
  have HZ4 := hide (kept_of_below b3 (unhide HZ1))
  have HIS4 := hide ((unhide HIS).below ((unhide HB1).trans (b3.mono (unhide HB1).size)))
  clear HB1 HZ1 HIS b3
  go_upto_region 4 with fail
  clear a0 a1 a2 a3 k0 k1 hi
  generalize w2.alloc _ = w4 at *
  obtain ⟨E, hE⟩ : ∃ E, E = w2.heap.size := ⟨_, rfl⟩
  rw [← hE] at h3 ⊢
  clear hE
  have hEl : E < w4.heap.size := (Array.getElem?_eq_some_iff.1 h3).1
  have x0 : w4.cell? ⟨E, 0, none⟩ = some (.string x.t) := by rw [Lib.cell_of_heap h3]; rfl
  have x1 : w4.cell? ⟨E, 1, none⟩ = some (.string x.i) := by rw [Lib.cell_of_heap h3]; rfl
  have x2 : w4.cell? ⟨E, 2, none⟩ = some (.slice x.po x.pl x.pc) := by rw [Lib.cell_of_heap h3]; rfl
  have x3 : w4.cell? ⟨E, 3, none⟩ = some (.slice x.ao x.al x.ac) := by rw [Lib.cell_of_heap h3]; rfl
  clear h3
  by_cases h3 : n.tmod 3 = 0
  · have g3 : (n.tmod 3 == 0) = true := by simpa using h3
    by_cases hn : 0 < x.pl
    · have p0 : (0 : Int) < (x.pl : Int) := by omega
      have hplx : x.pl = p.ps.length := (unhide HIS4).pl
      have hru := (unhide HIS4).rowU
      obtain ⟨i2, hi2⟩ : ∃ i2 : Nat, (wrap64 (n.tdiv 21)) % (x.pl : Int) = i2 := ⟨((wrap64 (n.tdiv 21)) % (x.pl : Int)).toNat, by
        have := Int.emod_nonneg (wrap64 (n.tdiv 21)) (b := (x.pl : Int)) (by omega)
        omega⟩
      have hi : i2 < x.pl := by
        have := Int.emod_lt_of_pos (wrap64 (n.tdiv 21)) (b := (x.pl : Int)) (by omega)
        omega
      have CW := fun w' => within9_any (wrap64 (n.tdiv 21)) x.pl (by omega) (by have := unhide HP3; omega) w'
      rw [hi2] at CW
      have hqp : i2 < p.ps.length := by omega
      have hpe : pickE p n = p.ps[i2] := by
        have e1 : (wrap64 (n.tdiv 21)) % (p.ps.length : Int) = i2 := by rw [← hplx]; exact hi2
        unfold pickE
        rw [if_pos ⟨h3, by omega⟩, e1, List.getD_eq_getElem?_getD, show ((i2 : Int)).toNat = i2 from rfl, List.getElem?_eq_getElem hqp]
        rfl
      have HPK := hide ((unhide HPK).trans hpe)
      obtain ⟨b2, off2, hpo, hb2, hc2⟩ := hru i2 (by rw [List.length_map]; omega)
      rw [List.getElem_map] at hc2
      obtain ⟨y, hy⟩ : ∃ y, y = p.ps[i2] := ⟨_, rfl⟩
      rw [← hy] at hc2 HPK
      have v0 := hc2 0 _ rfl
      have v1 := hc2 1 _ rfl
      rw [Nat.add_zero] at v0
      have m0 : (0 : Int) ≤ (i2 : Int) := by omega
      have m1 : (i2 : Int) < (x.pl : Int) := by omega
      rw [hpo] at x2
      clear hpe hy hc2 hru hplx hi2 hpo hi hqp HIS4 HP3
      go_upto_region 5 with fail
      clear x0 x1 x3 g3 p0 hn h3
      generalize x.pl = N at *
      refine wp_specs_put 10 (SpS [.eq (.pointer (some ⟨E, 2, none⟩)), .eq (.slice (some ⟨b2, off2, none⟩) N x.pc), .eq (.int .i64 n), .eq (.int .i64 (wrap64 (n.tdiv 21))), .eq (.pointer (some ⟨E, 2, none⟩)), .eq (.slice (some ⟨b2, off2, none⟩) N x.pc), .eq (.int .i64 (N : Nat)), .eq (.int .i64 (i2 : Nat)), .eq (.pointer (some ⟨b2, off2 + i2 * 2, none⟩)), .eq (.agg #[.string y.t, .string y.i])]) (fun w' => Below w4.heap.size w4 w') (by kernel_rfl) (by kernel_rfl) (Below.refl _ w4).drew ?_ ?_
      · intro q o hq' ho a' w' hR hdep hslot K hK
        have x2' : w'.cell? ⟨E, 2, none⟩ = some (.slice (some ⟨b2, off2, none⟩) N x.pc) := (hR.cell (p := ⟨E, 2, none⟩) hEl).trans x2
        have v0' : w'.cell? ⟨b2, off2 + i2 * 2, none⟩ = some (.string y.t) := (hR.cell (p := ⟨b2, off2 + i2 * 2, none⟩) hb2).trans v0
        have v1' : w'.cell? ⟨b2, off2 + i2 * 2 + 1, none⟩ = some (.string y.i) := (hR.cell (p := ⟨b2, off2 + i2 * 2 + 1, none⟩) hb2).trans v1
        have hc : q = 0 ∨ q = 1 ∨ q = 2 ∨ q = 3 ∨ q = 4 ∨ q = 5 ∨ q = 6 ∨ q = 7 ∨ q = 8 ∨ q = 9 := by omega
        rcases hc with rfl | rfl | rfl | rfl | rfl | rfl | rfl | rfl | rfl | rfl
        · cases ho
          have e0 : a'.tmps.getD 5 undef = .pointer (some ⟨E, 0, none⟩) := hslot 5 (by decide)
          clear x2' v0' v1'
          unfold Oper.wp
          go_simp
          exact hK _ _ rfl hR (fun _ _ h => h)
        · cases ho
          have e0 : a'.tmps.getD 33 undef = .pointer (some ⟨E, 2, none⟩) := hdep 0 (by kernel_rfl)
          have e0' : a'.tmps[33]?.getD undef = .pointer (some ⟨E, 2, none⟩) := by simpa using e0
          clear v0' v1'
          unfold Oper.wp
          go_simp
          exact hK _ _ rfl hR (fun _ _ h => h)
        · cases ho
          have e0 : a'.tmps.getD 1 undef = .int .i64 n := hslot 1 (by decide)
          clear x2' v0' v1'
          unfold Oper.wp
          go_simp
          exact hK _ _ rfl hR (fun _ _ h => h)
        · cases ho
          have e0 : a'.tmps.getD 35 undef = .int .i64 n := hdep 2 (by kernel_rfl)
          have e0' : a'.tmps[35]?.getD undef = .int .i64 n := by simpa using e0
          clear x2' v0' v1'
          unfold Oper.wp
          go_simp
          exact hK _ _ (congrArg (Value.int .i64) (by rw [IntKind.wrap_i64]; unfold wrap64; omega)) hR (fun _ _ h => h)
        · cases ho
          have e0 : a'.tmps.getD 5 undef = .pointer (some ⟨E, 0, none⟩) := hslot 5 (by decide)
          clear x2' v0' v1'
          unfold Oper.wp
          go_simp
          exact hK _ _ rfl hR (fun _ _ h => h)
        · cases ho
          have e0 : a'.tmps.getD 37 undef = .pointer (some ⟨E, 2, none⟩) := hdep 4 (by kernel_rfl)
          have e0' : a'.tmps[37]?.getD undef = .pointer (some ⟨E, 2, none⟩) := by simpa using e0
          clear v0' v1'
          unfold Oper.wp
          go_simp
          exact hK _ _ rfl hR (fun _ _ h => h)
        · cases ho
          have e0 : a'.tmps.getD 38 undef = .slice (some ⟨b2, off2, none⟩) N x.pc := hdep 5 (by kernel_rfl)
          have e0' : a'.tmps[38]?.getD undef = .slice (some ⟨b2, off2, none⟩) N x.pc := by simpa using e0
          clear x2' v0' v1'
          unfold Oper.wp
          go_simp
          exact hK _ _ rfl hR (fun _ _ h => h)
        · cases ho
          have e0 : a'.tmps.getD 36 undef = .int .i64 (wrap64 (n.tdiv 21)) := hdep 3 (by kernel_rfl)
          have e0' : a'.tmps[36]?.getD undef = .int .i64 (wrap64 (n.tdiv 21)) := by simpa using e0
          have e1 : a'.tmps.getD 39 undef = .int .i64 (N : Nat) := hdep 6 (by kernel_rfl)
          have e1' : a'.tmps[39]?.getD undef = .int .i64 (N : Nat) := by simpa using e1
          clear x2' v0' v1'
          unfold Oper.wp
          go_simp
          refine (CW w').mono ?_
          rintro e w9 ⟨rfl, hw9⟩
          subst hw9
          exact hK _ _ rfl hR (fun _ _ h => h)
        · cases ho
          have e0 : a'.tmps.getD 34 undef = .slice (some ⟨b2, off2, none⟩) N x.pc := hdep 1 (by kernel_rfl)
          have e0' : a'.tmps[34]?.getD undef = .slice (some ⟨b2, off2, none⟩) N x.pc := by simpa using e0
          have e1 : a'.tmps.getD 40 undef = .int .i64 (i2 : Nat) := hdep 7 (by kernel_rfl)
          have e1' : a'.tmps[40]?.getD undef = .int .i64 (i2 : Nat) := by simpa using e1
          clear x2' v0' v1'
          unfold Oper.wp
          go_simp
          exact hK _ _ rfl hR (fun _ _ h => h)
        · cases ho
          have e0 : a'.tmps.getD 41 undef = .pointer (some ⟨b2, off2 + i2 * 2, none⟩) := hdep 8 (by kernel_rfl)
          have e0' : a'.tmps[41]?.getD undef = .pointer (some ⟨b2, off2 + i2 * 2, none⟩) := by simpa using e0
          clear x2'
          unfold Oper.wp
          go_simp
          exact hK _ _ rfl hR (fun _ _ h => h)
      · intro v w' hR hall
        have f0 : v 0 = .pointer (some ⟨E, 2, none⟩) := hall 0 (by decide)
        have f1 : v 1 = .slice (some ⟨b2, off2, none⟩) N x.pc := hall 1 (by decide)
        have f2 : v 2 = .int .i64 n := hall 2 (by decide)
        have f3 : v 3 = .int .i64 (wrap64 (n.tdiv 21)) := hall 3 (by decide)
        have f4 : v 4 = .pointer (some ⟨E, 2, none⟩) := hall 4 (by decide)
        have f5 : v 5 = .slice (some ⟨b2, off2, none⟩) N x.pc := hall 5 (by decide)
        have f6 : v 6 = .int .i64 (N : Nat) := hall 6 (by decide)
        have f7 : v 7 = .int .i64 (i2 : Nat) := hall 7 (by decide)
        have f8 : v 8 = .pointer (some ⟨b2, off2 + i2 * 2, none⟩) := hall 8 (by decide)
        have f9 : v 9 = .agg #[.string y.t, .string y.i] := hall 9 (by decide)
        clear hall
        simp only [putAll, dstOf, List.getElem?_cons_zero, List.getElem?_cons_succ, Option.bind_some, List.drop_succ_cons, List.drop_zero, f0, f1, f2, f3, f4, f5, f6, f7, f8, f9]
        clear f0 f1 f2 f3 f4 f5 f6 f7 f8 f9
        simp only [Act.put, List.setIfInBounds_toArray, List.set_cons_succ, List.set_cons_zero]
        have b9 := hR
        clear hR CW x2 v0 v1
        have kz := kept_of_below b9 (unhide HZ4)
        have z0 : w'.cell? ⟨U0, 0, none⟩ = some (.string ⟨#[]⟩) := by rw [Lib.cell_of_heap kz]; rfl
        have z1 : w'.cell? ⟨U0, 1, none⟩ = some (.string ⟨#[]⟩) := by rw [Lib.cell_of_heap kz]; rfl
        have zf : ∀ o, w'.frozen? ⟨U0, o, none⟩ = false := fun o => Lib.frozen_of_heap kz o
        have HRS := hide (heap_setCell_same _ U0 1 _ _ (.string y.i) (heap_setCell_same w' U0 0 _ _ (.string y.t) kz))
        have HBE := hide (show Below w.heap.size w ((w').setCells U0 0 [.string y.t, .string y.i]) from belowSetCells (b := U0) [.string y.t, .string y.i] 0 w' ((unhide HB4).trans (b9.mono (unhide HB4).size)) (by rw [unhide HU0]; exact Nat.le_refl _))
        clear kz
        clear b9
        go_wp2
        obtain ⟨wq, hwq⟩ : ∃ wq, wq = w'.setCells U0 0 [.string y.t, .string y.i] := ⟨_, rfl⟩
        have hres : (w'.setCells U0 0 [.string y.t, .string y.i]).heap[U0]? = some (.cells #[.string y.t, .string y.i] 28 (0, 0)) := unhide HRS
        have hbe := unhide HBE
        rw [← hwq] at hres hbe
        change bodyPost _ _ _ _ _ (w'.setCells U0 0 [.string y.t, .string y.i])
        rw [← hwq]
        clear hwq
        have q0 : wq.cell? ⟨U0, 0, none⟩ = some (.string y.t) := by rw [Lib.cell_of_heap hres]; rfl
        have q1 : wq.cell? ⟨U0, 1, none⟩ = some (.string y.i) := by rw [Lib.cell_of_heap hres]; rfl
        exact bodyPost_ret (v := .agg #[.string y.t, .string y.i]) (by simp [results, Try.results7, go_sem, q0, q1]) rfl ⟨by rw [unhide HPK], hbe⟩
    · have p0 : ¬ (0 : Int) < (x.pl : Int) := by omega
      have hpe : pickE p n = p.u := by
        unfold pickE
        rw [if_neg (by have := (unhide HIS4).pl; omega)]
      have HPK := hide ((unhide HPK).trans (hpe.trans (unhide HIS4).u.symm))
      have kz := unhide HZ4
      have z0 : w4.cell? ⟨U0, 0, none⟩ = some (.string ⟨#[]⟩) := by rw [Lib.cell_of_heap kz]; rfl
      have z1 : w4.cell? ⟨U0, 1, none⟩ = some (.string ⟨#[]⟩) := by rw [Lib.cell_of_heap kz]; rfl
      have zf : ∀ o, w4.frozen? ⟨U0, o, none⟩ = false := fun o => Lib.frozen_of_heap kz o
      have HRS := hide (heap_setCell_same _ U0 1 _ _ (.string x.i) (heap_setCell_same w4 U0 0 _ _ (.string x.t) kz))
      have HBE := hide (show Below w.heap.size w (w4.setCells U0 0 [.string x.t, .string x.i]) from belowSetCells (b := U0) [.string x.t, .string x.i] 0 w4 (unhide HB4) (by rw [unhide HU0]; exact Nat.le_refl _))
      clear kz
      clear hpe HIS4 HP3
      go_wp2
      obtain ⟨wq, hwq⟩ : ∃ wq, wq = w4.setCells U0 0 [.string x.t, .string x.i] := ⟨_, rfl⟩
      have hres : (w4.setCells U0 0 [.string x.t, .string x.i]).heap[U0]? = some (.cells #[.string x.t, .string x.i] 28 (0, 0)) := unhide HRS
      have hbe := unhide HBE
      rw [← hwq] at hres hbe
      change bodyPost _ _ _ _ _ (w4.setCells U0 0 [.string x.t, .string x.i])
      rw [← hwq]
      clear hwq
      have q0 : wq.cell? ⟨U0, 0, none⟩ = some (.string x.t) := by rw [Lib.cell_of_heap hres]; rfl
      have q1 : wq.cell? ⟨U0, 1, none⟩ = some (.string x.i) := by rw [Lib.cell_of_heap hres]; rfl
      exact bodyPost_ret (v := .agg #[.string x.t, .string x.i]) (by simp [results, Try.results7, go_sem, q0, q1]) rfl ⟨by rw [unhide HPK], hbe⟩
  · have g3 : (n.tmod 3 == 0) = false := by simpa using h3
    have hpe : pickE p n = p.u := by
      unfold pickE
      rw [if_neg (fun h => h3 h.1)]
    have HPK := hide ((unhide HPK).trans (hpe.trans (unhide HIS4).u.symm))
    have kz := unhide HZ4
    have z0 : w4.cell? ⟨U0, 0, none⟩ = some (.string ⟨#[]⟩) := by rw [Lib.cell_of_heap kz]; rfl
    have z1 : w4.cell? ⟨U0, 1, none⟩ = some (.string ⟨#[]⟩) := by rw [Lib.cell_of_heap kz]; rfl
    have zf : ∀ o, w4.frozen? ⟨U0, o, none⟩ = false := fun o => Lib.frozen_of_heap kz o
    have HRS := hide (heap_setCell_same _ U0 1 _ _ (.string x.i) (heap_setCell_same w4 U0 0 _ _ (.string x.t) kz))
    have HBE := hide (show Below w.heap.size w (w4.setCells U0 0 [.string x.t, .string x.i]) from belowSetCells (b := U0) [.string x.t, .string x.i] 0 w4 (unhide HB4) (by rw [unhide HU0]; exact Nat.le_refl _))
    clear kz
    clear hpe HIS4 HP3
    go_wp2
    obtain ⟨wq, hwq⟩ : ∃ wq, wq = w4.setCells U0 0 [.string x.t, .string x.i] := ⟨_, rfl⟩
    have hres : (w4.setCells U0 0 [.string x.t, .string x.i]).heap[U0]? = some (.cells #[.string x.t, .string x.i] 28 (0, 0)) := unhide HRS
    have hbe := unhide HBE
    rw [← hwq] at hres hbe
    change bodyPost _ _ _ _ _ (w4.setCells U0 0 [.string x.t, .string x.i])
    rw [← hwq]
    clear hwq
    have q0 : wq.cell? ⟨U0, 0, none⟩ = some (.string x.t) := by rw [Lib.cell_of_heap hres]; rfl
    have q1 : wq.cell? ⟨U0, 1, none⟩ = some (.string x.i) := by rw [Lib.cell_of_heap hres]; rfl
    exact bodyPost_ret (v := .agg #[.string x.t, .string x.i]) (by simp [results, Try.results7, go_sem, q0, q1]) rfl ⟨by rw [unhide HPK], hbe⟩
end Go.Proofs.Ythmmplmppchfmaa

namespace Go.Proofs.Ythmmplmppchfmaa
open Go.RowKit Go.Sort

theorem ac2 (w : World) (o1 o2 : Obj) : Below w.heap.size w ((w.alloc o1).alloc o2) ∧ ((w.alloc o1).alloc o2).heap[w.heap.size]? = some o1 ∧ ((w.alloc o1).alloc o2).heap[w.heap.size + 1]? = some o2 := by
  refine ⟨(ac1 w o1).trans ((ac1 (w.alloc o1) o2).mono (ac1 w o1).size), kept_of_below (ac1 _ _) (alloc_heap w o1), ?_⟩
  have := alloc_heap (w.alloc o1) o2
  rwa [World.size_alloc] at this
theorem own_keptA {w w' : World} {B : Nat} {T : TypeId} {z : Nat} {v : Value} {m : Nat} {xs : List Value} (h : w.ownsRow B T z v m xs) (hk : ∀ g, v.ownBlock = some g → g < w.heap.size → w'.heap[g]? = w.heap[g]?) : w'.ownsRow B T z v m xs := by
  refine ⟨h.1, h.2.imp id ?_⟩
  rintro ⟨g, cap, cur, h1, h2, h3, h4⟩
  exact ⟨g, cap, cur, h1, h2, (hk g (by rw [h1]; rfl) (Array.getElem?_eq_some_iff.1 h3).1).trans h3, h4⟩
theorem own_notA {w : World} {B n k K : Nat} {T KT : TypeId} {v : Value} {xs : List Value} {cs : Array Value} {fz : Nat × Nat} (hT : T ≠ KT) (h : w.ownsRow B T n v k xs) (hk : w.heap[K]? = some (.cells cs KT fz)) : v.ownBlock ≠ some K := fun e => by
  rcases h.2 with ⟨hv, _⟩ | ⟨g, cap, cur, hv, _, hg, _⟩
  · rw [hv] at e
    cases e
  · rw [hv] at e
    have e : g = K := by simpa [Value.ownBlock] using e
    rw [e, hk] at hg
    injection hg with hg
    injection hg with _ h3
    exact hT h3.symm
theorem flat_getA : ∀ (l : List U2) (j : Nat) (hj : j < l.length) (c : Nat), c < 2 → ((l.map U2.cells).flatten)[j * 2 + c]? = (l[j].cells)[c]?
  | [], j, hj, _, _ => absurd hj (Nat.not_lt_zero _)
  | u :: l, 0, _, c, hc => by
    rw [List.map_cons, List.flatten_cons, List.getElem?_append_left (by show 0 * 2 + c < 2; omega), Nat.zero_mul, Nat.zero_add]
    rfl
  | u :: l, j + 1, hj, c, hc => by
    rw [List.map_cons, List.flatten_cons, List.getElem?_append_right (by show 2 ≤ _; omega), show (j + 1) * 2 + c - u.cells.length = j * 2 + c by show (j + 1) * 2 + c - 2 = _; omega]
    exact flat_getA l j (by simpa using hj) c hc
/-- A row of uids that a law lays one behind the other. -/
theorem own_rowA {w : World} {B : Nat} {v : Value} {us : List U2} (h : w.ownsRow B 28 2 v us.length (us.map U2.cells).flatten) : ∃ ao cap, v = .slice ao us.length cap ∧ RowG w ao 2 (us.map U2.cells) := by
  rcases h.2 with ⟨hv, h0⟩ | ⟨g, cap, cur, hv, hB, hg, hcap, _, hcs, hxs⟩
  · exact ⟨none, 0, by rw [hv, h0], fun j hj => by rw [List.length_map] at hj; omega⟩
  · refine ⟨_, cap, hv, fun j hj => ⟨g, 0, rfl, (Array.getElem?_eq_some_iff.1 hg).1, fun c u hu => ?_⟩⟩
    have hj' : j < us.length := by simpa using hj
    rw [List.getElem_map] at hu
    have hc : c < 2 := (List.getElem?_eq_some_iff.1 hu).1
    rw [Lib.cell_of_heap hg, Nat.zero_add]
    rw [← flat_getA us j hj' c hc, ← hxs, List.getElem?_take] at hu
    split at hu
    · simpa using hu
    · cases hu
def entC (u : U2) (pv : Value) : Array Value := #[.string u.t, .string u.i, pv, .slice none 0 0]
/-- While one more uid is laid behind an entity's row of parents: which operations are done (9: the append, 11: the store). -/
structure RcU (w wr : World) (P B : Nat) (u : U2) (pv : Value) (x : U2) (L : List U2) (Lb : Nat → Bool) (a' : Act) (w' : World) : Prop where
  bel : Below w.heap.size w w'
  size : wr.heap.size ≤ w'.heap.size
  keep : ∀ b, b < wr.heap.size → b ≠ P → pv.ownBlock ≠ some b → w'.heap[b]? = wr.heap[b]?
  low : Lb 9 = false → Below wr.heap.size wr w'
  pol : Lb 11 = false → w'.heap[P]? = some (.cells (entC u pv) 40 (0, 0))
  ord : Lb 11 = true → ∀ j, j < 11 → Lb j = true
  app : Lb 9 = true → ∃ ao m c, a'.tmps.getD 43 undef = .slice ao m c ∧ w'.ownsRow B 28 2 (.slice ao m c) (L.length + 1) ((L.map U2.cells).flatten ++ x.cells) ∧ (Lb 11 = true → w'.heap[P]? = some (.cells (entC u (.slice ao m c)) 40 (0, 0)))
theorem put_neA (a : Act) (d s : Nat) (v : Value) (h : s ≠ d) : (a.put (some d) v).tmps.getD s undef = a.tmps.getD s undef := by
  simp [Act.put, Array.getElem?_setIfInBounds_ne (Ne.symm h)]
section
variable {w wr w' w'' : World} {P B : Nat} {u : U2} {pv : Value} {x : U2} {L : List U2} {Lb : Nat → Bool} {a' : Act}
theorem RcU.start (hb : Below w.heap.size w wr) (hp : wr.heap[P]? = some (.cells (entC u pv) 40 (0, 0))) (a : Act) : RcU w wr P B u pv x L (fun _ => false) a wr.drew :=
  ⟨hb.drew, Nat.le_refl _, fun _ _ _ _ => rfl, fun _ => (Below.refl _ wr).drew, fun _ => hp, fun h => (by cases h), fun h => (by cases h)⟩
theorem RcU.grow (h : RcU w wr P B u pv x L Lb a' w') (hP : P < wr.heap.size) (i d : Nat) (v : Value) (h5 : i ≠ 9) (h7 : i ≠ 11) (hd : d ≠ 43) (hb : Below w'.heap.size w' w'') : RcU w wr P B u pv x L (fun j => decide (j = i) || Lb j) (a'.put (some d) v) w'' := by
  have e5 : ((fun j => decide (j = i) || Lb j) 9) = Lb 9 := by simp [Ne.symm h5]
  have e7 : ((fun j => decide (j = i) || Lb j) 11) = Lb 11 := by simp [Ne.symm h7]
  have hP' : P < w'.heap.size := Nat.lt_of_lt_of_le hP h.size
  refine ⟨h.bel.trans (hb.mono h.bel.size), Nat.le_trans h.size hb.size, fun b h1 h2 h3 => (hb.block b (Nat.lt_of_lt_of_le h1 h.size)).trans (h.keep b h1 h2 h3), fun e => (h.low (e5 ▸ e)).trans (hb.mono h.size), fun e => (hb.block P hP').trans (h.pol (e7 ▸ e)), fun e j hj => by simp [h.ord (e7 ▸ e) j hj], fun e => ?_⟩
  obtain ⟨ao, m, c, k1, k4, k5⟩ := h.app (e5 ▸ e)
  exact ⟨ao, m, c, (put_neA a' d 43 v (Ne.symm hd)).trans k1, own_keptA k4 fun g _ hl => hb.block g hl, fun e => (hb.block P hP').trans (k5 (e7 ▸ e))⟩
theorem RcU.appd (h : RcU w wr P B u pv x L Lb a' w') (hL : Lb 9 = false) (hwB : w.heap.size ≤ B) (ho : wr.ownsRow B 28 2 pv L.length (L.map U2.cells).flatten) (hs : 43 < a'.tmps.size) (hP : wr.heap[P]? = some (.cells (entC u pv) 40 (0, 0))) {v : Value}
    (hown : w''.ownsRow B 28 2 v (L.length + 1) ((L.map U2.cells).flatten ++ x.cells)) (hg : w'.grownBy w'' pv.ownBlock) : RcU w wr P B u pv x L (fun j => decide (j = 9) || Lb j) (a'.put (some 43) v) w'' := by
  have h7 : Lb 11 = false := by
    cases e : Lb 11 with
    | false => rfl
    | true => rw [h.ord e 9 (by decide)] at hL; cases hL
  have hPl : P < wr.heap.size := (Array.getElem?_eq_some_iff.1 hP).1
  have hPn : pv.ownBlock ≠ some P := own_notA (show 28 ≠ 40 by decide) ho hP
  refine ⟨h.bel.grown hg h.bel.size fun k e => Nat.le_trans hwB (ho.lt k e).1, Nat.le_trans h.size hg.size, fun b h1 h2 h3 => (hg.block b (Nat.lt_of_lt_of_le h1 h.size) (fun e => h3 e.symm)).trans (h.keep b h1 h2 h3), fun e => by simp at e, fun _ => (hg.block P (Nat.lt_of_lt_of_le hPl h.size) (fun e => hPn e.symm)).trans (h.pol h7), fun e => by simp [h7] at e, fun _ => ?_⟩
  obtain ⟨ao, m, c, rfl⟩ : ∃ ao m c, v = .slice ao m c := by
    rcases hown.2 with ⟨hv, _⟩ | ⟨g, cap, cur, hv, _⟩
    · exact ⟨_, _, _, hv⟩
    · exact ⟨_, _, _, hv⟩
  refine ⟨ao, m, c, by simp [Act.put, hs], hown, fun e => ?_⟩
  simp [h7] at e
theorem RcU.stor (h : RcU w wr P B u pv x L Lb a' w') (hL : Lb 11 = false) (hall : ∀ j, j < 11 → Lb j = true) (hwP : w.heap.size ≤ P) {ao : Option Addr} {m c : Nat} (hv : a'.tmps.getD 43 undef = .slice ao m c) : RcU w wr P B u pv x L (fun j => decide (j = 11) || Lb j) a' (w'.setCell ⟨P, 2, none⟩ (.slice ao m c)) := by
  have hk := h.pol hL
  have h5 := hall 9 (by decide)
  have hset := heap_setCell_same w' P 2 _ _ (.slice ao m c) hk
  have hoth : ∀ b, b ≠ P → (w'.setCell ⟨P, 2, none⟩ (.slice ao m c)).heap[b]? = w'.heap[b]? := fun b hb => Below.heap_setCell w' ⟨P, 2, none⟩ _ b hb
  refine ⟨h.bel.setCell (p := ⟨P, 2, none⟩) hwP _, by rw [World.size_setCell]; exact h.size, fun b h1 h2 h3 => (hoth b h2).trans (h.keep b h1 h2 h3), fun e => ?_, fun e => by simp at e, fun _ j hj => by simp [hall j hj], fun _ => ?_⟩
  · simp [h5] at e
  · obtain ⟨ao', m', c', k1, k4, _⟩ := h.app h5
    have e := hv.symm.trans k1
    injection e with e1 e2 e3
    subst e1 e2 e3
    exact ⟨ao, m, c, hv, own_keptA k4 fun g e _ => hoth g (fun e2 => own_notA (show 28 ≠ 40 by decide) k4 hk (e2 ▸ e)), fun _ => hset⟩
end
def auSp (P W : Nat) (pv gv sv : Value) (j : Nat) (pt : Value) (n : Int) (x : U2) : Nat → Value → World → Prop
  | 0, v, _ => v = .pointer (some ⟨P, 2, none⟩)
  | 1, v, _ => v = pv
  | 2, v, _ => v = gv
  | 3, v, _ => v = sv
  | 4, v, _ => v = .int .i64 j
  | 5, v, _ => v = pt
  | 6, v, _ => v = .int .i64 n
  | 7, v, _ => v = .agg #[.string x.t, .string x.i]
  | 8, v, w' => ∃ g, W ≤ g ∧ w'.heap[g]? = some (.cells #[.string x.t, .string x.i] 28 (0, 0)) ∧ v = .slice (some ⟨g, 0, none⟩) 1 1
  | 10, v, _ => v = .pointer (some ⟨P, 2, none⟩)
  | _, _, _ => True
theorem auSp_up {P W : Nat} {pv gv sv : Value} {jj : Nat} {pt : Value} {n : Int} {x : U2} {w' w'' : World} (hk : ∀ b, W ≤ b → b < w'.heap.size → w''.heap[b]? = w'.heap[b]?) (j : Nat) (u : Value) (h : auSp P W pv gv sv jj pt n x j u w') : auSp P W pv gv sv jj pt n x j u w'' := by
  match j with
  | 0 | 1 | 2 | 3 | 4 | 5 | 6 | 7 | 10 => exact h
  | 8 =>
    obtain ⟨g, h2, h4, h5⟩ := h
    exact ⟨g, h2, (hk g h2 (Array.getElem?_eq_some_iff.1 h4).1).trans h4, h5⟩
  | 9 => trivial
  | _ + 11 => trivial
end Go.Proofs.Ythmmplmppchfmaa

namespace Go.Proofs.Ythmmplmppchfmaa
open Go.RowKit Go.Sort

theorem more_sub {ps : List EntP} (hr : RisingP ps) {q : EntP} (hq : q ∈ ps) (v : U2) (x y : U2) (h : y ∈ upS ps x) : y ∈ upS (putP ps ⟨q.u, q.ps ++ [v], q.ats⟩) x := by
  rw [mem_upS_put hr]
  by_cases hx : x = q.u
  · refine .inl ⟨hx, ?_⟩
    obtain ⟨q', hq', e, hm⟩ := (mem_upS (rising_nodup hr) x y).1 h
    have h1 := find_mem (rising_nodup hr) hq
    have h2 := find_mem (rising_nodup hr) hq'
    rw [e, hx, h1] at h2
    cases h2
    exact List.mem_append.2 (.inl hm)
  · exact .inr ⟨hx, h⟩
theorem more_step {ps : List EntP} (hr : RisingP ps) (q : EntP) (v : U2) : Way (upS (putP ps ⟨q.u, q.ps ++ [v], q.ats⟩)) q.u v :=
  .step (.here _) ((mem_upS_put hr _ _ _).2 (.inl ⟨rfl, List.mem_append.2 (.inr (List.mem_singleton.2 rfl))⟩))
theorem infoUidA : (Try.prog.info? 28).map (fun i => (i.zero, i.size, i.bytes)) = some (some (.agg #[.string ⟨#[]⟩, .string ⟨#[]⟩]), 2, 32) := by kernel_rfl
/-- append of two rows of uids. -/
theorem run_appU {w : World} {B : Nat} {v : Value} {A C : List U2} {ao : Option Addr} {m cap : Nat} (ty : TypeId) (h : w.ownsRow B 28 2 v A.length (A.map U2.cells).flatten) (hm : m = C.length) (hr : RowG w ao 2 (C.map U2.cells)) (hl : A.length + C.length ≤ 1000) (hB : B ≤ w.heap.size) :
    ∃ v' w', (Builtin.append_ #[30, 30] ty #[v, .slice ao m cap]).run Try.prog w = .ok v' w' ∧ w'.ownsRow B 28 2 v' (A ++ C).length ((A ++ C).map U2.cells).flatten ∧ w.grownBy w' v.ownBlock := by
  obtain ⟨i0, hi, hz0, hz1, hz2⟩ := info_parts infoUidA
  subst hm
  rcases ao with _ | ad
  · have hC : C = [] := by
      cases C with
      | nil => rfl
      | cons c C =>
        obtain ⟨b, off, e, _⟩ := hr 0 (by simp)
        cases e
    subst hC
    refine ⟨v, w, run_append_owned_none (P := Try.prog) (w := w) B 30 ty 28 i0 2 Try.underlying30 hi v _ _ h, by simpa using h, rfl, rfl, rfl, Nat.le_refl _, fun _ _ _ => rfl⟩
  · have hnews : ∀ j u, ((C.map U2.cells).flatten)[j]? = some u → w.cell? (ad.add j) = some u := by
      intro j u hu
      have hjl : j < C.length * 2 := by
        have h1 := (List.getElem?_eq_some_iff.1 hu).1
        have h2 : ∀ l : List U2, ((l.map U2.cells).flatten).length = l.length * 2 := fun l => by
          induction l with
          | nil => rfl
          | cons a t ih =>
            rw [List.map_cons, List.flatten_cons, List.length_append, ih, List.length_cons]
            show 2 + _ = _
            omega
        rw [h2] at h1
        exact h1
      have hj2 : j / 2 < C.length := by omega
      obtain ⟨b, off, e, hb, hc⟩ := hr (j / 2) (by rw [List.length_map]; exact hj2)
      cases e
      have h3 := flat_getA C (j / 2) hj2 (j % 2) (by omega)
      rw [show j / 2 * 2 + j % 2 = j by omega, hu] at h3
      rw [List.getElem_map] at hc
      have h4 := hc (j % 2) u h3.symm
      rw [Addr.add_lit, show off + j = off + j / 2 * 2 + j % 2 by omega]
      exact h4
    have hlen : ((C.map U2.cells).flatten).length = C.length * 2 := by
      have h2 : ∀ l : List U2, ((l.map U2.cells).flatten).length = l.length * 2 := fun l => by
        induction l with
        | nil => rfl
        | cons a t ih =>
          rw [List.map_cons, List.flatten_cons, List.length_append, ih, List.length_cons]
          show 2 + _ = _
          omega
      exact h2 C
    obtain ⟨v', w', a1, a2, a3, _, _⟩ := run_append_own_at (P := Try.prog) w B 30 ty 28 i0 _ 2 32 Try.underlying30 hi hz0 hz1 hz2 rfl (by decide) v A.length _ h ad C.length cap ((C.map U2.cells).flatten) hlen hnews (by
      intro u hu
      obtain ⟨l, hl, hul⟩ := List.mem_flatten.1 hu
      obtain ⟨y, _, rfl⟩ := List.mem_map.1 hl
      simp only [U2.cells, List.mem_cons, List.not_mem_nil, or_false] at hul
      rcases hul with rfl | rfl <;> rfl) (by unfold maxLen; omega) (by omega) hB
    refine ⟨v', w', a1, ?_, a3⟩
    rw [List.length_append, List.map_append, List.flatten_append]
    exact a2
theorem wpList_appU {ops : Array Oper} {rest : List Oper} {o : Oper} {a : Act} {Q : Exit → Act → World → Prop} {w : World} {B : Nat} {v : Value} {A C : List U2} {ao : Option Addr} {m cap : Nat} (hgd : o.guard = none) (s x : Operand)
    (ho : o.op = .call { callee := .builtin .append, args := #[s, x], argTypes := #[30, 30] }) (hs : a.eval s = v) (hx : a.eval x = .slice ao m cap)
    (hown : w.ownsRow B 28 2 v A.length (A.map U2.cells).flatten) (hm : m = C.length) (hr : RowG w ao 2 (C.map U2.cells)) (hl : A.length + C.length ≤ 1000) (hB : B ≤ w.heap.size)
    (h : ∀ v' w', w'.ownsRow B 28 2 v' (A ++ C).length ((A ++ C).map U2.cells).flatten → w.grownBy w' v.ownBlock → wpList Try.prog ops Q rest (a.put o.dst v') w') : wpList Try.prog ops Q (o :: rest) a w := by
  obtain ⟨v', w', hrun, h1, h2⟩ := run_appU (cap := cap) o.type hown hm hr hl hB
  refine wpList_plain hgd fun _ hK => ?_
  unfold Oper.wp execOp
  simp only [ho, resolve, invoke, builtin, Sem.run_bind, Sem.run_pure, Result.andThen_ok, List.map_toArray, List.map_cons, List.map_nil, hs, hx, hrun]
  exact hK _ _ (h v' w' h1 h2)
theorem rowG_one {w : World} {b : Nat} {x : U2} (h : w.heap[b]? = some (.cells #[.string x.t, .string x.i] 28 (0, 0))) : RowG w (some ⟨b, 0, none⟩) 2 ([x].map U2.cells) := fun j hj => by
  have hj0 : j = 0 := by simpa using hj
  subst hj0
  refine ⟨b, 0, rfl, (Array.getElem?_eq_some_iff.1 h).1, fun c u hu => ?_⟩
  rw [Lib.cell_of_heap h]
  have : (U2.cells x)[c]? = some u := hu
  simpa [U2.cells] using this
end Go.Proofs.Ythmmplmppchfmaa
