/-
  above.Circle: what it returns.
  Maps keyed by uids: an entry taken (m[k] = append(m[k], x)), and stored again.
  The rows of a map of uids, each in a block of its own (above.downward): what stays, and one laid on behind a row.
  above.downward: what it returns.
  above.Below: what it returns.
-/
import Derived.Test.YthmmplmppchfmaaMpEG
import Derived.Test.YthmmplmppchfmaaEnEc
import Derived.Deep.AppendLies
namespace Go.Proofs.Ythmmplmppchfmaa
open Go.RowKit Go.Sort

def delM (M : List (U2 × Value)) (u : U2) : List (U2 × Value) :=
  match M.findIdx? fun p => decide (u = p.1) with
  | some i => M.eraseIdx i
  | none => M
theorem map_erase {α β : Type} (f : α → β) : ∀ (l : List α) (i : Nat), (l.eraseIdx i).map f = (l.map f).eraseIdx i
  | [], _ => rfl
  | _ :: _, 0 => rfl
  | a :: l, i + 1 => by
    show f a :: (l.eraseIdx i).map f = f a :: (l.map f).eraseIdx i
    rw [map_erase f l i]
theorem run_delU {t e : TypeId} (ht : Try.prog.underlying t = some (.map 28 e)) {w : World} {b : Nat} {M : List (U2 × Value)} (h : IsMap w b M) (u : U2) :
    ∃ w', (∀ ty, (Builtin.delete_ #[t, 28] ty #[.map (some b), u.val]).run Try.prog w = .ok (.tuple #[]) w') ∧ TurnM w w' b (delM M u) := by
  have hlt := h.lt
  obtain ⟨es, clock, h⟩ := h
  have hlen : es.toList.length = M.length := by
    have := congrArg List.length h.rep
    simpa using this
  have hF := run_findU u w es.toList M h.rep
  unfold delM
  cases hf : M.findIdx? fun p => decide (u = p.1) with
  | none =>
    have hl : lookM M u = none := by unfold lookM; rw [hf]; rfl
    rw [hl] at hF
    refine ⟨{ w with heap := w.heap.setIfInBounds b (.map es clock) }, ?_, turnM_of rfl hlt h.rep h.rise h.old⟩
    intro ty
    simp [Builtin.delete_, run_underlying ht, MapKept.run_getObj_map h.heap, run_checkU, hF, MapKept.run_setObj_map _ h.heap, Result.andThen]
  | some i =>
    obtain ⟨hi, _, _⟩ := List.findIdx?_eq_some_iff_getElem.1 hf
    have hi' : i < es.size := by
      have : es.toList.length = es.size := by simp
      omega
    have hl : lookM M u = some (i, (M[i]?.map Prod.snd).getD (.bool false)) := by unfold lookM; rw [hf]; rfl
    rw [hl] at hF
    have hte : (es.eraseIdxIfInBounds i).toList = es.toList.eraseIdx i := by
      unfold Array.eraseIdxIfInBounds
      rw [dif_pos hi']
      simp
    refine ⟨{ w with heap := w.heap.setIfInBounds b (.map (es.eraseIdxIfInBounds i) clock) }, ?_, turnM_of rfl hlt ?_ ?_ ?_⟩
    · intro ty
      simp [Builtin.delete_, run_underlying ht, MapKept.run_getObj_map h.heap, run_checkU, hF, MapKept.run_setObj_map _ h.heap, Result.andThen]
    · rw [hte, map_erase, h.rep, ← map_erase]
    · rw [hte, map_erase]
      exact List.Pairwise.sublist (List.eraseIdx_sublist _ _) h.rise
    · intro x hx
      rw [hte] at hx
      exact h.old x (List.mem_of_mem_eraseIdx hx)

def ciSp (po : Option Addr) (n pc b : Nat) (M : List (U2 × Value)) (S : U2 → List U2) (pl : List U2) (u : U2) : Nat → Value → World → Prop
  | 0, v, w => v = .map (some b) ∧ IsMap w b M
  | 1, v, _ => v = .slice po n pc
  | 2, v, w => ∃ mb m, v = .map (some mb) ∧ IsMap w mb (setM m) ∧ ReachI S pl (m, [])
  | 3, v, _ => v = .agg #[.string u.t, .string u.i]
  | 4, v, _ => ∃ z, v = .bool z ∧ (z = true ↔ ∃ f ∈ pl, Way S f u)
  | _ + 5, _, _ => True
theorem ciSp_up {po : Option Addr} {n pc b : Nat} {M : List (U2 × Value)} {S : U2 → List U2} {pl : List U2} {u : U2} {w w' : World} (hb : Below w.heap.size w w') : ∀ j v, ciSp po n pc b M S pl u j v w → ciSp po n pc b M S pl u j v w'
  | 1, _, h | 3, _, h | 4, _, h => h
  | 0, _, ⟨e, h⟩ => ⟨e, h.below hb h.lt⟩
  | 2, _, ⟨mb, m, e, h1, h2⟩ => ⟨mb, m, e, h1.below hb h1.lt, h2⟩
  | _ + 5, _, _ => trivial

set_option maxHeartbeats 4000000 in
set_option maxRecDepth 1000000 in
theorem circle_any (S : U2 → List U2) (es : List E4) (ao po : Option Addr) (cap pc : Nat) (u : U2) (pl N : List U2) (w : World) (hl : es.length ≤ 1048576) (hr : RowG w ao 4 (es.map E4.cells)) (hrp : RowG w po 2 (pl.map U2.cells)) (hpl : pl.length ≤ 1000) (hlow : ∀ ad, po = some ad → pl ≠ [] → ad.block < w.heap.size) (hS : StepsR w w.heap.size (delM (upM es) u) S) (hN1 : ∀ x ∈ pl, x ∈ N) (hN2 : ∀ x, ∀ v ∈ S x, v ∈ N) (hN : N.length ≤ 99999) :
    Calls Try.prog 15 #[.slice ao es.length cap, u.val, .slice po pl.length pc] w fun x w' => Below w.heap.size w w' ∧ ∃ z, x = .returned (.bool z) ∧ (z = true ↔ ∃ f ∈ pl, Way S f u) := by
  have b1 := belowA w (.cells #[.string u.t, .string u.i] 28)
  have z1 := sizeA w (.cells #[.string u.t, .string u.i] 28)
  have A1 : AtE2 (w.alloc (.cells #[.string u.t, .string u.i] 28)) w.heap.size 0 u := ⟨by simp, by simp⟩
  have hz : w.heap.size < (w.alloc (.cells #[.string u.t, .string u.i] 28)).heap.size := by rw [z1]; omega
  have UP := upward_any es ao cap _ hl (hr.below b1)
  have HRP := hide hrp
  have HLOW := hide hlow
  have HS := hide hS
  have HN := hide (And.intro hN1 hN2)
  clear hr hrp hlow hS hN1 hN2 z1
  unfold U2.val
  go_enter Try.func15, Try.ntmps15
  go_wp2_with fail
  generalize w.alloc _ = w1 at *
  refine UP.mono ?_
  clear UP
  rintro _ w2 ⟨b, rfl, hm, b2, hbb⟩
  have b02 := b1.trans (b2.mono b1.size)
  have A2 := A1.below b2 hz
  have hz2 : w.heap.size < w2.heap.size := Nat.lt_of_lt_of_le hz b2.size
  obtain ⟨w3, hrun, T⟩ := run_delU (t := 57) (e := 30) Try.underlying57 hm u
  unfold U2.val at hrun
  have b3 : Below w1.heap.size w2 w3 := T.below _ hbb
  have b03 := b02.trans (b3.mono b1.size)
  have hm3 := T.map
  have A3 : AtE2 w3 w.heap.size 0 u := ⟨(b3.cell (p := ⟨w.heap.size, 0, none⟩) hz).trans A2.c0, (b3.cell (p := ⟨w.heap.size, 0 + 1, none⟩) hz).trans A2.c1⟩
  have hz3 : w.heap.size < w3.heap.size := by rw [T.size]; exact hz2
  clear T hm
  obtain ⟨a0, a1⟩ := A2
  simp only [Nat.zero_add] at a1
  go_upto_region 3 with fail
  clear a0 a1 hrun
  refine wp_specs_put 5 (ciSp po pl.length pc b (delM (upM es) u) S pl u) (fun w' => Below w3.heap.size w3 w') (by kernel_rfl) (by kernel_rfl) (Below.refl _ w3).drew ?_ ?_
  · intro j o hj ho a' w' hR hdep hslot K hK
    have b0' := b03.trans (hR.mono b03.size)
    have hc : j = 0 ∨ j = 1 ∨ j = 2 ∨ j = 3 ∨ j = 4 := by omega
    rcases hc with rfl | rfl | rfl | rfl | rfl
    · cases ho
      have e : a'.tmps.getD 7 undef = .map (some b) := hslot 7 (by decide)
      unfold Oper.wp
      go_simp
      exact hK _ _ ⟨rfl, hm3.below hR hm3.lt⟩ hR (fun _ _ h => h)
    · cases ho
      have e : a'.tmps.getD 2 undef = .slice po pl.length pc := hslot 2 (by decide)
      unfold Oper.wp
      go_simp
      exact hK _ _ rfl hR (fun _ _ h => h)
    · cases ho
      obtain ⟨e1, hmm⟩ : ciSp po pl.length pc b (delM (upM es) u) S pl u 0 (a'.tmps.getD 12 undef) w' := hdep 0 (by kernel_rfl)
      have e2 : a'.tmps.getD 13 undef = .slice po pl.length pc := hdep 1 (by kernel_rfl)
      have RE := reach_any S (delM (upM es) u) b pl N po pc w' ((unhide HS).below b0') hmm ((unhide HRP).below b0') hpl (fun ad e hne => Nat.lt_of_lt_of_le (unhide HLOW ad e hne) b0'.size) (unhide HN).1 (unhide HN).2 (by omega)
      clear hmm
      unfold Oper.wp
      go_simp
      refine RE.mono ?_
      rintro _ w4 ⟨b4, mb, m, rfl, hmm, _, hI⟩
      exact hK _ _ ⟨mb, m, rfl, hmm, hI⟩ (hR.trans (b4.mono hR.size)) (ciSp_up b4)
    · cases ho
      have e : a'.tmps.getD 4 undef = .pointer (some ⟨w.heap.size, 0, none⟩) := hslot 4 (by decide)
      obtain ⟨c0, c1⟩ := A3.below hR hz3
      simp only [Nat.zero_add] at c1
      unfold Oper.wp
      go_simp
      exact hK _ _ rfl hR (fun _ _ h => h)
    · cases ho
      obtain ⟨mb, m, e1, hmm, hI⟩ : ciSp po pl.length pc b (delM (upM es) u) S pl u 2 (a'.tmps.getD 14 undef) w' := hdep 2 (by kernel_rfl)
      have e2 : a'.tmps.getD 15 undef = .agg #[.string u.t, .string u.i] := hdep 3 (by kernel_rfl)
      have HA := has_any m mb u w' hmm
      unfold U2.val at HA
      have hiff : decide (u ∈ m) = true ↔ ∃ f ∈ pl, Way S f u := by
        rw [decide_eq_true_eq]
        exact reachI_end hI u
      clear hmm hI
      unfold Oper.wp
      go_simp
      refine HA.mono ?_
      rintro _ w4 ⟨rfl, b4⟩
      exact hK _ _ ⟨_, rfl, hiff⟩ (hR.trans (b4.mono hR.size)) (ciSp_up b4)
  · intro v w' hR hall
    obtain ⟨f0, _⟩ := hall 0 (by decide)
    have f1 := hall 1 (by decide)
    obtain ⟨g2, m2, f2, _, _⟩ := hall 2 (by decide)
    have f3 := hall 3 (by decide)
    obtain ⟨z, f4, hzz⟩ := hall 4 (by decide)
    unfold ciSp at f1 f3
    have b0' := b03.trans (hR.mono b03.size)
    have HZ := hide hzz
    clear hall hzz
    simp only [putAll, dstOf, List.getElem?_cons_zero, List.getElem?_cons_succ, Option.bind_some, List.drop_succ_cons, List.drop_zero, f0, f1, f2, f3, f4]
    clear f0 f1 f2 f3 f4
    simp only [Act.put, List.setIfInBounds_toArray, List.set_cons_succ, List.set_cons_zero]
    go_wp2
    go_ret
    exact ⟨b0', z, rfl, unhide HZ⟩
end Go.Proofs.Ythmmplmppchfmaa

namespace Go.Proofs.Ythmmplmppchfmaa
open Go.RowKit Go.Sort

/-- The entry at a place, by its stamp. -/
def EntryAt (w : World) (b : Nat) (M : List (U2 × Value)) (i stamp : Nat) : Prop := ∃ es clock, AtMap w b M es clock ∧ ∃ h : i < es.size, es[i].born = stamp
theorem EntryAt.turn {w w' : World} {b i stamp : Nat} {M : List (U2 × Value)} (h : EntryAt w b M i stamp) (hk : w'.heap[b]? = w.heap[b]?) : EntryAt w' b M i stamp := by
  obtain ⟨es, clock, h1, h2⟩ := h
  exact ⟨es, clock, ⟨hk.trans h1.heap, h1.rep, h1.rise, h1.old⟩, h2⟩
theorem EntryAt.map {w : World} {b i stamp : Nat} {M : List (U2 × Value)} (h : EntryAt w b M i stamp) : IsMap w b M := by
  obtain ⟨es, clock, h1, _⟩ := h
  exact ⟨es, clock, h1⟩
theorem EntryAt.lt {w : World} {b i stamp : Nat} {M : List (U2 × Value)} (h : EntryAt w b M i stamp) : i < M.length := by
  obtain ⟨es, clock, h1, h2, _⟩ := h
  have := congrArg List.length h1.rep
  simp at this
  omega
theorem find_stamp {es : Array MapEntry} (hr : (es.toList.map MapEntry.born).Pairwise (· < ·)) {i : Nat} (hi : i < es.size) : es.findIdx? (fun e => ((e.born : Nat) : Int) == ((es[i].born : Nat) : Int)) = some i := by
  rw [Array.findIdx?_eq_some_iff_getElem]
  refine ⟨hi, by simp, fun j hj => ?_⟩
  have := List.pairwise_iff_getElem.1 hr j i (by simp; omega) (by simpa using hi) hj
  simp only [List.getElem_map, Array.getElem_toList] at this
  have hne : ¬ ((es[j].born : Nat) : Int) = ((es[i].born : Nat) : Int) := by omega
  simpa using hne
/-- What lies there is stored anew. -/
theorem run_storeU (t : TypeId) {w : World} {b i stamp : Nat} {M : List (U2 × Value)} (h : EntryAt w b M i stamp) (hi : i < M.length) (v : Value) :
    ∃ w', (Instr.entryStore t (.map (some b)) (.int .i64 stamp) v).run Try.prog w = .ok () w' ∧ TurnM w w' b (M.set i (M[i].1, v)) := by
  have hlt := h.map.lt
  obtain ⟨es, clock, h, hi', rfl⟩ := h
  have hborn : (es.modify i fun e => { e with val := v }).toList.map MapEntry.born = es.toList.map MapEntry.born := by
    rw [Array.toList_modify]
    refine List.ext_getElem? fun j => ?_
    rw [List.getElem?_map, List.getElem?_map, List.getElem?_modify]
    cases es.toList[j]? with
    | none => rfl
    | some x =>
      simp only [Option.map_some]
      split <;> rfl
  have hkv : (es[i].key, es[i].val) = (M[i].1.val, M[i].2) := by
    have h1 := congrArg (fun l => l[i]?) h.rep
    simp only [List.getElem?_map] at h1
    rw [List.getElem?_eq_getElem (by simpa using hi'), List.getElem?_eq_getElem hi] at h1
    simpa using h1
  refine ⟨{ w with heap := w.heap.setIfInBounds b (.map (es.modify i fun e => { e with val := v }) clock) }, ?_, turnM_of rfl hlt ?_ ?_ ?_⟩
  · have hs := find_stamp h.rise hi'
    have ha : (asInt (.int .i64 ((es[i].born : Nat) : Int))).run Try.prog w = .ok ((es[i].born : Nat) : Int) w := rfl
    simp only [Instr.entryStore, Sem.run_bind, MapKept.run_getObj_map h.heap, Result.andThen_ok, ha, hs, MapKept.run_setObj_map _ h.heap]
  · rw [Array.toList_modify]
    refine List.ext_getElem? fun j => ?_
    have h1 := congrArg (fun l => l[j]?) h.rep
    simp only [List.getElem?_map] at h1
    rw [List.getElem?_map, List.getElem?_map, List.getElem?_modify, List.getElem?_set]
    by_cases hij : i = j
    · subst hij
      rw [List.getElem?_eq_getElem (by simpa using hi'), if_pos rfl, if_pos hi]
      have := congrArg Prod.fst hkv
      simp at this ⊢
      exact this
    · rw [if_neg hij]
      cases hx : es.toList[j]? with
      | none =>
        rw [hx] at h1
        simpa using h1
      | some x =>
        rw [hx] at h1
        simpa [hij] using h1
  · rw [hborn]
    exact h.rise
  · intro x hx
    have : x.born ∈ es.toList.map MapEntry.born := by rw [← hborn]; exact List.mem_map_of_mem hx
    obtain ⟨y, hy, e'⟩ := List.mem_map.1 this
    rw [← e']
    exact h.old y hy
theorem atMap_of {w : World} {b : Nat} {M : List (U2 × Value)} {es : Array MapEntry} {clock : Nat} (hb : b < w.heap.size) (hrep : es.toList.map (fun e => (e.key, e.val)) = M.map (fun p => (p.1.val, p.2))) (hrise : (es.toList.map MapEntry.born).Pairwise (· < ·)) (hold : ∀ e ∈ es.toList, e.born < clock) :
    AtMap { w with heap := w.heap.setIfInBounds b (.map es clock) } b M es clock := by
  refine ⟨?_, hrep, hrise, hold⟩
  show (w.heap.setIfInBounds b (.map es clock))[b]? = _
  rw [Array.getElem?_setIfInBounds, if_pos rfl, if_pos hb]
/-- What lies at a key, or nothing yet: the entry is there behind it. -/
theorem run_entryU {t e : TypeId} (ht : Try.prog.underlying t = some (.map 28 e)) (z : Value) (hz : ∀ W, (zeroValue e).run Try.prog W = .ok z W) {w : World} {b : Nat} {M : List (U2 × Value)} (h : IsMap w b M) (u : U2) :
    ∃ (w' : World) (i stamp : Nat) (M' : List (U2 × Value)), (Instr.mapEntry t (.map (some b)) u.val).run Try.prog w = .ok (.tuple #[gotM false z (lookM M u), .int .i64 (stamp : Int)]) w' ∧ TurnM w w' b M' ∧ EntryAt w' b M' i stamp ∧ ∀ v, ∃ hi : i < M'.length, M'.set i (M'[i].1, v) = putM M u v := by
  have hlt := h.lt
  obtain ⟨es, clock, h⟩ := h
  have hlen : es.toList.length = M.length := by
    have := congrArg List.length h.rep
    simpa using this
  have hF := run_findU u w es.toList M h.rep
  cases hf : M.findIdx? fun p => decide (u = p.1) with
  | none =>
    have hl : lookM M u = none := by unfold lookM; rw [hf]; rfl
    rw [hl] at hF ⊢
    have hrep : (es.push { key := u.val, val := z, born := clock }).toList.map (fun e => (e.key, e.val)) = (M ++ [(u, z)]).map (fun p => (p.1.val, p.2)) := by
      rw [Array.toList_push, List.map_append, List.map_append, h.rep]
      rfl
    have hrise : ((es.push { key := u.val, val := z, born := clock }).toList.map MapEntry.born).Pairwise (· < ·) := by
      rw [Array.toList_push, List.map_append, List.pairwise_append]
      refine ⟨h.rise, List.pairwise_singleton _ _, fun x hx y hy => ?_⟩
      obtain ⟨e', he', rfl⟩ := List.mem_map.1 hx
      have hy : y = clock := by simpa using hy
      rw [hy]
      exact h.old e' he'
    have hold : ∀ e ∈ (es.push { key := u.val, val := z, born := clock }).toList, e.born < clock + 1 := fun e' he' => by
      rw [Array.toList_push, List.mem_append] at he'
      rcases he' with he' | he'
      · have := h.old e' he'
        omega
      · rw [List.mem_singleton.1 he']
        exact Nat.lt_succ_self _
    refine ⟨_, M.length, clock, M ++ [(u, z)], ?_, turnM_of rfl hlt hrep hrise hold, ⟨_, _, atMap_of hlt hrep hrise hold, ?_, ?_⟩, fun v => ⟨by simp, ?_⟩⟩
    · simp [Instr.mapEntry, run_underlying ht, MapKept.run_getObj_map h.heap, run_checkU, hF, hz, MapKept.run_setObj_map _ h.heap, Result.andThen, gotM, goInt]
    · have : es.toList.length = es.size := by simp
      simp
      omega
    · have hsz : M.length = es.size := by
        have : es.toList.length = es.size := by simp
        omega
      simp only [hsz, Array.getElem_push_eq]
    · unfold putM
      rw [hf]
      simp
  | some i =>
    obtain ⟨hi, hp, _⟩ := List.findIdx?_eq_some_iff_getElem.1 hf
    have hi' : i < es.size := by
      have : es.toList.length = es.size := by simp
      omega
    have hu : u = M[i].1 := by simpa using hp
    have hl : lookM M u = some (i, M[i].2) := by
      unfold lookM
      rw [hf]
      simp [List.getElem?_eq_getElem hi]
    rw [hl] at hF ⊢
    have hkv : (es[i].key, es[i].val) = (M[i].1.val, M[i].2) := by
      have h1 := congrArg (fun l => l[i]?) h.rep
      simp only [List.getElem?_map] at h1
      rw [List.getElem?_eq_getElem (by simpa using hi'), List.getElem?_eq_getElem hi] at h1
      simpa using h1
    have hkey : es[i].key = u.val := by
      rw [hu]
      exact congrArg Prod.fst hkv
    have hst : (Instr.keyThatStays u.val u.val).run Try.prog w = .ok u.val w := by
      unfold Instr.keyThatStays
      rw [show (10000 : Nat) = 9999 + 1 from rfl, same_bitsU]
      rfl
    have hsame : (es.modify i fun e => { e with key := u.val }) = es := by
      refine Array.toList_inj.1 ?_
      rw [Array.toList_modify]
      refine List.ext_getElem? fun j => ?_
      rw [List.getElem?_modify]
      by_cases hij : i = j
      · subst hij
        rw [List.getElem?_eq_getElem (by simpa using hi')]
        simp [← hkey]
      · cases es.toList[j]? with
        | none => rfl
        | some x => simp [hij]
    refine ⟨_, i, es[i].born, M, ?_, turnM_of (es := es) (clock := clock) rfl hlt h.rep h.rise h.old, ⟨_, _, atMap_of hlt h.rep h.rise h.old, hi', rfl⟩, fun v => ⟨hi, ?_⟩⟩
    · simp [Instr.mapEntry, run_underlying ht, MapKept.run_getObj_map h.heap, run_checkU, hF, hkey, hst, hsame, hi', MapKept.run_setObj_map _ h.heap, Result.andThen, gotM, goInt]
    · unfold putM
      rw [hf, ← hu]
end Go.Proofs.Ythmmplmppchfmaa

namespace Go.Proofs.Ythmmplmppchfmaa
open Go.RowKit Go.Sort

/-- The row at a key; none, if there is no such key. -/
def rowM (M : List (U2 × Value)) (u : U2) : Value := gotM false (.slice none 0 0) (lookM M u)
theorem rowM_none {M : List (U2 × Value)} {u : U2} (h : M.findIdx? (fun p => decide (u = p.1)) = none) : rowM M u = .slice none 0 0 := by
  unfold rowM lookM
  rw [h]
  rfl
theorem rowM_some {M : List (U2 × Value)} {u : U2} {i : Nat} (h : M.findIdx? (fun p => decide (u = p.1)) = some i) (hi : i < M.length) : rowM M u = M[i].2 := by
  unfold rowM lookM
  rw [h]
  simp [gotM, hi]
theorem findIdx_set {M : List (U2 × Value)} {u x : U2} {i : Nat} (v : Value) (hi : i < M.length) (hu : u = M[i].1) : (M.set i (u, v)).findIdx? (fun p => decide (x = p.1)) = M.findIdx? (fun p => decide (x = p.1)) := by
  have e : (M.set i (u, v)).map Prod.fst = M.map Prod.fst := by
    rw [List.map_set]
    apply List.ext_getElem (by simp)
    intro n h1 h2
    rw [List.getElem_set]
    split
    · rename_i e
      subst e
      simp [hu]
    · rfl
  have k : ∀ L : List (U2 × Value), L.findIdx? (fun p => decide (x = p.1)) = (L.map Prod.fst).findIdx? (fun a => decide (x = a)) := fun L => by
    rw [List.findIdx?_map]
    rfl
  rw [k, k, e]
theorem rowM_put (M : List (U2 × Value)) (u x : U2) (v : Value) : rowM (putM M u v) x = if x = u then v else rowM M x := by
  unfold putM
  cases hf : M.findIdx? fun p => decide (u = p.1) with
  | none =>
    simp only
    by_cases hx : x = u
    · subst hx
      rw [if_pos rfl]
      have hf2 : (M ++ [(x, v)]).findIdx? (fun p => decide (x = p.1)) = some M.length := by
        rw [List.findIdx?_append, hf]
        simp
      rw [rowM_some hf2 (by simp)]
      simp
    · rw [if_neg hx]
      cases hg : M.findIdx? fun p => decide (x = p.1) with
      | none =>
        rw [rowM_none hg, rowM_none]
        rw [List.findIdx?_append, hg]
        simp [hx]
      | some k =>
        obtain ⟨hk, _, _⟩ := List.findIdx?_eq_some_iff_getElem.1 hg
        have hg2 : (M ++ [(u, v)]).findIdx? (fun p => decide (x = p.1)) = some k := by
          rw [List.findIdx?_append, hg]
          rfl
        rw [rowM_some hg hk, rowM_some hg2 (by simp; omega), List.getElem_append_left hk]
  | some i =>
    simp only
    obtain ⟨hi, hp, _⟩ := List.findIdx?_eq_some_iff_getElem.1 hf
    have hu : u = M[i].1 := by simpa using hp
    have hs := fun x => findIdx_set (x := x) v hi hu
    by_cases hx : x = u
    · subst hx
      rw [if_pos rfl]
      rw [rowM_some ((hs x).trans hf) (by simpa using hi)]
      simp
    · rw [if_neg hx]
      cases hg : M.findIdx? fun p => decide (x = p.1) with
      | none => rw [rowM_none hg, rowM_none ((hs x).trans hg)]
      | some k =>
        obtain ⟨hk, hq, _⟩ := List.findIdx?_eq_some_iff_getElem.1 hg
        have hxk : x = M[k].1 := by simpa using hq
        have hne : i ≠ k := fun e => hx (by subst e; rw [hxk, ← hu])
        rw [rowM_some hg hk, rowM_some ((hs x).trans hg) (by simpa using hk), List.getElem_set_ne hne]

/-- Rows by uids, each in a block of its own. -/
structure RowsR (w : World) (B : Nat) (V : U2 → Value) (S : U2 → List U2) : Prop where
  own : ∀ u, w.ownsRow B 28 2 (V u) (S u).length ((S u).map U2.cells).flatten
  apart : ∀ u x, u ≠ x → ∀ g, (V u).ownBlock = some g → (V x).ownBlock ≠ some g
theorem ownM_kept {w w' : World} {B : Nat} {T : TypeId} {z : Nat} {v : Value} {m : Nat} {xs : List Value} (h : w.ownsRow B T z v m xs) (hk : ∀ g c f, v.ownBlock = some g → w.heap[g]? = some (.cells c T f) → w'.heap[g]? = w.heap[g]?) : w'.ownsRow B T z v m xs := by
  refine ⟨h.1, h.2.imp id ?_⟩
  rintro ⟨g, cap, cur, h1, h2, h3, h4⟩
  exact ⟨g, cap, cur, h1, h2, (hk g _ _ (by rw [h1]; rfl) h3).trans h3, h4⟩
theorem RowsR.below {w w' : World} {B : Nat} {V : U2 → Value} {S : U2 → List U2} (h : RowsR w B V S) (hb : Below w.heap.size w w') : RowsR w' B V S :=
  ⟨fun u => ownM_kept (h.own u) fun g _ _ _ hg => hb.block g (Array.getElem?_eq_some_iff.1 hg).1, h.apart⟩
theorem RowsR.turn {w w' : World} {B b : Nat} {V : U2 → Value} {S : U2 → List U2} {M M' : List (U2 × Value)} (h : RowsR w B V S) (hm : IsMap w b M) (T : TurnM w w' b M') : RowsR w' B V S := by
  obtain ⟨es, clock, hm⟩ := hm
  refine ⟨fun u => ownM_kept (h.own u) fun g _ _ _ hg => T.other g (fun e => ?_), h.apart⟩
  rw [e, hm.heap] at hg
  cases hg
theorem RowsR.push {w w1 : World} {B : Nat} {V : U2 → Value} {S : U2 → List U2} (h : RowsR w B V S) (u x : U2) {g n c : Nat} (hg : w.grownBy w1 (V u).ownBlock) (hl : (V u).ownBlock = some g ∨ g = w.heap.size) (hown : w1.ownsRow B 28 2 (.slice (some ⟨g, 0, none⟩) n c) (S u ++ [x]).length ((S u ++ [x]).map U2.cells).flatten) :
    RowsR w1 B (fun y => if y = u then .slice (some ⟨g, 0, none⟩) n c else V y) (fun y => if y = u then S u ++ [x] else S y) := by
  have hlt : ∀ y k, (V y).ownBlock = some k → k < w.heap.size := fun y k hk => ((h.own y).lt k hk).2
  have hne : ∀ y, y ≠ u → (V y).ownBlock ≠ some g := fun y hy e => by
    rcases hl with hl | hl
    · exact h.apart y u hy g e hl
    · have := hlt y g e
      omega
  refine ⟨fun y => ?_, fun y z hyz k => ?_⟩
  · by_cases hy : y = u
    · simp only [if_pos hy]
      exact hown
    · simp only [if_neg hy]
      exact ownM_kept (h.own y) fun k _ _ hk _ => hg.block k (hlt y k hk) (fun e => h.apart y u hy k hk e.symm)
  · by_cases hy : y = u
    · by_cases hz : z = u
      · exact absurd (hy.trans hz.symm) hyz
      · simp only [if_pos hy, if_neg hz]
        intro hk e
        have : g = k := by simpa [Value.ownBlock] using hk
        subst this
        exact hne z hz e
    · by_cases hz : z = u
      · simp only [if_neg hy, if_pos hz]
        intro hk e
        have : g = k := by simpa [Value.ownBlock] using e
        subst this
        exact hne y hy hk
      · simp only [if_neg hy, if_neg hz]
        exact h.apart y z hyz k
/-- The map's block is not one of the rows'. -/
theorem RowsR.map {w w1 : World} {B b : Nat} {V : U2 → Value} {S : U2 → List U2} (h : RowsR w B V S) (u : U2) {es : Array MapEntry} {clock : Nat} (hm : w.heap[b]? = some (.map es clock)) (hg : w.grownBy w1 (V u).ownBlock) : w1.heap[b]? = w.heap[b]? := by
  refine hg.block b (Array.getElem?_eq_some_iff.1 hm).1 (fun e => ?_)
  rcases (h.own u).2 with ⟨hv, _⟩ | ⟨g, cap, cur, hv, _, hgb, _⟩
  · rw [hv] at e
    cases e
  · rw [hv] at e
    have : b = g := by simpa [Value.ownBlock] using e
    rw [this, hgb] at hm
    cases hm
theorem rowG_ownM {w : World} {B n : Nat} {T : TypeId} {v : Value} {l : List (List Value)} (hn : ∀ c ∈ l, c.length = n) (h : w.ownsRow B T n v l.length l.flatten) : ∃ ao cap, v = .slice ao l.length cap ∧ RowG w ao n l ∧ l.length ≤ cap ∧ ∀ ad, ao = some ad → ad.off = 0 ∧ B ≤ ad.block := by
  rcases h.2 with ⟨hv, h0⟩ | ⟨g, cap, cur, hv, hB, hg, hcap, _, hcs, hxs⟩
  · exact ⟨none, 0, by rw [hv, h0], fun j hj => by omega, by omega, fun _ e => by cases e⟩
  · refine ⟨_, cap, hv, fun j hj => ⟨g, 0, rfl, (Array.getElem?_eq_some_iff.1 hg).1, fun c u hu => ?_⟩, hcap, fun ad e => by cases e; exact ⟨rfl, hB⟩⟩
    have hc : c < n := by
      have := (List.getElem?_eq_some_iff.1 hu).1
      rwa [hn _ (List.getElem_mem hj)] at this
    rw [Lib.cell_of_heap hg, Nat.zero_add]
    rw [← flat_get l hn j c hj hc, ← hxs, List.getElem?_take] at hu
    split at hu
    · simpa using hu
    · cases hu
/-- The steps that such a map is. -/
theorem RowsR.steps {w : World} {B : Nat} {M : List (U2 × Value)} {S : U2 → List U2} (h : RowsR w B (rowM M) S) (hl : ∀ u, (S u).length ≤ 1000) : StepsR w w.heap.size M S := by
  intro u
  have ho := h.own u
  obtain ⟨ao, c, hv, hr, _, _⟩ := rowG_ownM (lenU (S u)) (by rw [List.length_map]; exact ho)
  rw [List.length_map] at hv
  exact ⟨ao, c, hv, hr, fun ad had _ => (ho.lt ad.block (by rw [show rowM M u = _ from hv, had]; rfl)).2, hl u⟩
end Go.Proofs.Ythmmplmppchfmaa

namespace Go.Proofs.Ythmmplmppchfmaa
open Go.RowKit Go.Sort

/-- One more step, from a parent down to u. -/
def stepD (u : U2) (S : U2 → List U2) (p : U2) : U2 → List U2 := fun y => if y = p then S p ++ [u] else S y
def rowD (u : U2) (S : U2 → List U2) (l : List U2) : U2 → List U2 := l.foldl (stepD u) S
def downS (L : List (U2 × List U2)) : U2 → List U2 := L.foldl (fun S q => rowD q.1 S q.2) (fun _ => [])
theorem rowD_snoc (u : U2) (S : U2 → List U2) (l : List U2) (j : Nat) (hj : j < l.length) : rowD u S (l.take (j + 1)) = stepD u (rowD u S (l.take j)) l[j] := by
  rw [List.take_succ_eq_append_getElem hj, rowD, List.foldl_append]
  rfl
theorem downS_snoc (L : List (U2 × List U2)) (j : Nat) (hj : j < L.length) : downS (L.take (j + 1)) = rowD L[j].1 (downS (L.take j)) L[j].2 := by
  rw [List.take_succ_eq_append_getElem hj, downS, List.foldl_append]
  rfl
theorem rowD_len (u : U2) (y : U2) : ∀ (l : List U2) (S : U2 → List U2), (rowD u S l y).length ≤ (S y).length + l.length
  | [], S => Nat.le_refl _
  | p :: l, S => by
    have h := rowD_len u y l (stepD u S p)
    have h2 : (stepD u S p y).length ≤ (S y).length + 1 := by
      unfold stepD
      split
      · rename_i e
        subst e
        simp
      · omega
    show (rowD u (stepD u S p) l y).length ≤ _
    rw [List.length_cons]
    omega
theorem downS_len (c : Nat) (y : U2) : ∀ (L : List (U2 × List U2)) (S : U2 → List U2), (∀ q ∈ L, q.2.length ≤ c) → (L.foldl (fun S q => rowD q.1 S q.2) S y).length ≤ (S y).length + L.length * c
  | [], S, _ => by simp
  | q :: L, S, h => by
    have h1 := downS_len c y L (rowD q.1 S q.2) (fun x hx => h x (List.mem_cons_of_mem _ hx))
    have h2 := rowD_len q.1 y q.2 S
    have h3 := h q List.mem_cons_self
    rw [List.foldl_cons, List.length_cons, Nat.add_mul, Nat.one_mul]
    omega
theorem mem_rowD (u y v : U2) : ∀ (l : List U2) (S : U2 → List U2), v ∈ rowD u S l y ↔ v ∈ S y ∨ (v = u ∧ y ∈ l)
  | [], S => by simp [rowD]
  | p :: l, S => by
    show v ∈ rowD u (stepD u S p) l y ↔ _
    rw [mem_rowD u y v l]
    unfold stepD
    by_cases e : y = p
    · subst e
      simp
      exact fun h _ => .inr h
    · simp [e]
theorem mem_downS (y v : U2) : ∀ (L : List (U2 × List U2)) (S : U2 → List U2), v ∈ L.foldl (fun S q => rowD q.1 S q.2) S y ↔ v ∈ S y ∨ ∃ q ∈ L, v = q.1 ∧ y ∈ q.2
  | [], S => by simp
  | q :: L, S => by
    rw [List.foldl_cons, mem_downS y v L, mem_rowD]
    simp only [List.mem_cons, exists_eq_or_imp, or_assoc]

/-- Entities in memory: their uids and their parents. -/
def DownE (w : World) (es : List E4) (L : List (U2 × List U2)) : Prop := L.length = es.length ∧ ∀ j (hj : j < es.length) (hl : j < L.length), L[j].1 = e4uM es[j] ∧ es[j].pl = L[j].2.length ∧ RowG w es[j].po 2 (L[j].2.map U2.cells) ∧ (∀ ad, es[j].po = some ad → L[j].2 ≠ [] → ad.block < w.heap.size) ∧ L[j].2.length ≤ 1000
/-- What downward has in memory. -/
structure DownR (w : World) (B mb : Nat) (S : U2 → List U2) : Prop where
  bm : B ≤ mb
  rows : ∃ M, IsMap w mb M ∧ RowsR w B (rowM M) S
theorem DownR.below {w w' : World} {B mb : Nat} {S : U2 → List U2} (h : DownR w B mb S) (hb : Below w.heap.size w w') : DownR w' B mb S := by
  obtain ⟨M, h1, h2⟩ := h.rows
  exact ⟨h.bm, M, h1.below hb h1.lt, h2.below hb⟩
set_option maxHeartbeats 4000000 in
set_option maxRecDepth 1000000 in
theorem downward_any (es : List E4) (L : List (U2 × List U2)) (ao : Option Addr) (cap : Nat) (w : World) (hl : es.length ≤ 1000) (hr : RowG w ao 4 (es.map E4.cells)) (hL : DownE w es L) :
    Calls Try.prog 31 #[.slice ao es.length cap] w fun x w' => ∃ b, x = .returned (.map (some b)) ∧ DownR w' w.heap.size b (downS L) ∧ Below w.heap.size w w' := by
  obtain ⟨i0, hi, hz0, hz1, hz2⟩ := info_parts infoUidM
  have b1 := belowA w (.map #[] 0)
  have hD0 : DownR (w.alloc (.map #[] 0)) w.heap.size w.heap.size (downS []) := ⟨Nat.le_refl _, [], isMap_new w, fun u => World.ownsRow_nil _ _ _ _, fun u x _ g e => by cases e⟩
  have HD := hide hD0
  have hLq : ∀ q ∈ L, q.2.length ≤ 1000 := fun q hq => by
    obtain ⟨j, hj, rfl⟩ := List.getElem_of_mem hq
    exact (hL.2 j (by have := hL.1; omega) hj).2.2.2.2
  have HL := hide hL
  clear hL hD0
  have hlt : w.heap.size < (w.alloc (.map #[] 0)).heap.size := by rw [sizeA]; omega
  have hmk : ∀ W : World, (Instr.makeMap 57 none).run Try.prog W = .ok (.map (some W.heap.size)) (W.alloc (.map #[] 0)) := fun _ => rfl
  go_enter Try.func31, Try.ntmps31
  go_wp2
  clear hmk
  generalize w.alloc _ = w1 at *
  go_loopw [11] (fun iv wr => ∃ i : Nat, iv = .int .i64 i ∧ i ≤ es.length ∧ Below w.heap.size w wr ∧ w.heap.size < wr.heap.size ∧ DownR wr w.heap.size w.heap.size (downS (L.take i))) (fun iv _ => es.length - (intOf iv).toNat)
  case atStart => exact ⟨0, by go_num, Nat.zero_le _, b1, hlt, unhide HD⟩
  case round =>
    clear HD
    obtain ⟨j, rfl, hj, hbw, hwz, hD⟩ := hrel
    have k0 : (0 : Int) ≤ (j : Int) := by omega
    by_cases hlt2 : j < es.length
    · have i1 : (j : Int) < (es.length : Int) := by omega
      have hLlen := (unhide HL).1
      have hlL : j < L.length := by omega
      obtain ⟨hq1, hq2, hq3, hq4, hq5⟩ := (unhide HL).2 j hlt2 hlL
      have HS := hide (downS_snoc L j hlL)
      obtain ⟨b, off, rfl, hb, hcx⟩ := rowG_at hr hbw hlt2
      have A : AtE4 wr b (off + j * 4) es[j] := AtE4.of hcx
      obtain ⟨x, hx⟩ : ∃ x, x = es[j] := ⟨_, rfl⟩
      obtain ⟨q, hq⟩ : ∃ q, q = L[j] := ⟨_, rfl⟩
      rw [← hx] at A hq1 hq2 hq3 hq4
      rw [← hq] at HS hq1 hq2 hq3 hq4 hq5
      clear hx hcx hq
      obtain ⟨u, ps⟩ := q
      obtain ⟨S, hS⟩ : ∃ S, S = downS (L.take j) := ⟨_, rfl⟩
      have hSlen : ∀ y, (S y).length ≤ 1000000 := fun y => by
        have h := downS_len 1000 y (L.take j) (fun _ => []) (fun q hq => hLq q (List.mem_of_mem_take hq))
        rw [hS]
        refine Nat.le_trans h ?_
        rw [List.length_take, List.length_nil]
        omega
      rw [← hS] at hD HS
      clear hS
      simp only at hq1 hq2 hq3 hq4 hq5
      simp only at HS
      have HS := hide (show downS (L.take (j + 1)) = rowD (e4uM x) S ps from hq1 ▸ unhide HS)
      obtain ⟨po, hpo⟩ : ∃ po, po = x.po := ⟨_, rfl⟩
      obtain ⟨a0, a1, a2, a3⟩ := A
      rw [hq2, ← hpo] at a2
      rw [← hpo] at hq3 hq4
      clear hpo hq1 hq2
      have z2 := sizeA wr (.cells #[.string x.t, .string x.i, .slice po ps.length x.pc, .slice x.ao x.al x.ac] 40)
      have he2 := heap_alloc_new wr (.cells #[.string x.t, .string x.i, .slice po ps.length x.pc, .slice x.ao x.al x.ac] 40)
      have b2 := belowA wr (.cells #[.string x.t, .string x.i, .slice po ps.length x.pc, .slice x.ao x.al x.ac] 40)
      have hD2 := hD.below b2
      have hb2 := hbw.trans (b2.mono hbw.size)
      have HD2 := hide hD2
      have HE2 := hide he2
      have HB2 := hide hb2
      clear hD hD2 he2 hb2 b2
      go_wp2
      clear a0 a1 a2 a3
      generalize wr.alloc _ = w2 at *
      obtain ⟨EB, hEB⟩ : ∃ EB, EB = wr.heap.size := ⟨_, rfl⟩
      rw [← hEB] at HE2 z2 ⊢
      rw [← hEB] at hwz
      clear hEB
      go_loopw [18] (fun iv wi => ∃ k : Nat, iv = .int .i64 k ∧ k ≤ ps.length ∧ Below w.heap.size w wi ∧ EB < wi.heap.size ∧ wi.heap[EB]? = some (.cells #[.string x.t, .string x.i, .slice po ps.length x.pc, .slice x.ao x.al x.ac] 40 (0, 0)) ∧ DownR wi w.heap.size w.heap.size (rowD (e4uM x) S (ps.take k))) (fun iv _ => ps.length - (intOf iv).toNat)
      case atStart => exact ⟨0, by go_num, Nat.zero_le _, unhide HB2, by omega, unhide HE2, unhide HD2⟩
      case round =>
        clear HD2 HE2 HB2
        obtain ⟨k, rfl, hk, hbi, hiz, hei, hDi⟩ := hrel
        have k1 : (0 : Int) ≤ (k : Int) := by omega
        by_cases hlt3 : k < ps.length
        · have i2 : (k : Int) < (ps.length : Int) := by omega
          have HSk := hide (rowD_snoc (e4uM x) S ps k hlt3)
          have hlenS := fun y => rowD_len (e4uM x) y (ps.take k) S
          obtain ⟨b', off', rfl, hb', hcx⟩ := rowG_at hq3 hbi hlt3
          have A : AtE2 wr b' (off' + k * 2) ps[k] := AtE2.of hcx
          obtain ⟨p, hp⟩ : ∃ p, p = ps[k] := ⟨_, rfl⟩
          rw [← hp] at A HSk
          clear hp hcx
          obtain ⟨Sk, hSk⟩ : ∃ Sk, Sk = rowD (e4uM x) S (ps.take k) := ⟨_, rfl⟩
          rw [← hSk] at hDi HSk
          have hlp : (Sk p).length ≤ 1048576 := by
            have h1 := hlenS p
            rw [← hSk, List.length_take] at h1
            have h2 := hSlen p
            omega
          clear hSk hlenS
          obtain ⟨o3, ho3⟩ : ∃ o3, o3 = Obj.cells #[.string p.t, .string p.i] 28 := ⟨_, rfl⟩
          have z3 := sizeA wr (.cells #[.string p.t, .string p.i] 28)
          have b3 := belowA wr (.cells #[.string p.t, .string p.i] 28)
          have A3 : AtE2 (wr.alloc (.cells #[.string p.t, .string p.i] 28)) wr.heap.size 0 p := ⟨by simp, by simp⟩
          have he3 := (b3.block EB hiz).trans hei
          have hD3 := hDi.below b3
          have hb3 := hbi.trans (b3.mono hbi.size)
          clear ho3 o3
          obtain ⟨a0, a1⟩ := A
          obtain ⟨w3, hw3⟩ : ∃ w3, w3 = wr.alloc (.cells #[.string p.t, .string p.i] 28) := ⟨_, rfl⟩
          have hal : ∀ W : World, W = wr → W.alloc (.cells #[.string p.t, .string p.i] 28) = w3 := fun W e => by rw [e, hw3]
          rw [← hw3] at z3 A3 he3 hD3 hb3 b3
          have z4 := sizeA w3 (.cells #[.string x.t, .string x.i] 28)
          have b4 := belowA w3 (.cells #[.string x.t, .string x.i] 28)
          have he4 := (b4.block EB (by omega)).trans he3
          have hD4 := hD3.below b4
          have hb4 := hb3.trans (b4.mono hb3.size)
          have N4 := newsU_rowM w3 (e4uM x) _ rfl
          obtain ⟨M, hM4, hR4⟩ := hD4.rows
          obtain ⟨w5, i, stamp, M', hrun, T5, hE5, hput⟩ := run_entryU (t := 57) (e := 30) Try.underlying57 (.slice none 0 0) zeroUids hM4 p
          have hrun : (Instr.mapEntry 57 (.map (some w.heap.size)) p.val).run Try.prog (w3.alloc (.cells #[.string x.t, .string x.i] 28)) = .ok (.tuple #[rowM M p, .int .i64 (stamp : Int)]) w5 := hrun
          unfold U2.val at hrun
          have hR5 := hR4.turn hM4 T5
          have z5 := T5.size
          have he5 := (T5.other EB (by omega)).trans he4
          have hb5 := hb4.trans (T5.below _ (Nat.le_refl _))
          have N5 : ∀ j u, (e4uM x).cells[j]? = some u → w5.cell? ((⟨wr.heap.size + 1, 0, none⟩ : Addr).add j) = some u := fun j u hu => by
            have h := N4 j u hu
            rw [← z3]
            rw [Addr.add_lit] at h ⊢
            exact (World.cell?_of_block (T5.other _ (by show w3.heap.size ≠ _; omega))).trans h
          obtain ⟨d0, d1⟩ := A3
          simp only [Nat.zero_add] at d1
          have c0 : w3.cell? ⟨EB, 0, none⟩ = some (.string x.t) := by rw [Lib.cell_of_heap he3]; rfl
          have c1 : w3.cell? ⟨EB, 1, none⟩ = some (.string x.i) := by rw [Lib.cell_of_heap he3]; rfl
          have HX := hide (⟨hR5, hE5, hput, N5, T5⟩ : RowsR w5 w.heap.size (rowM M) Sk ∧ EntryAt w5 w.heap.size M' i stamp ∧ (∀ v, ∃ hi : i < M'.length, M'.set i (M'[i].1, v) = putM M p v) ∧ (∀ j u, (e4uM x).cells[j]? = some u → w5.cell? ((⟨wr.heap.size + 1, 0, none⟩ : Addr).add j) = some u) ∧ TurnM _ w5 w.heap.size M')
          have HB5 := hide hb5
          have HE5 := hide he5
          clear hR5 hE5 hput N5 T5 hb5 he5 hM4 hR4 N4 hb4 hb3 b4 b3 he4 he3 hD3 hD4 hei hDi z4
          subst hw3
          have hz5 : w.heap.size ≤ w5.heap.size := (unhide HB5).size
          have HZ := hide (show w5.heap.size = wr.heap.size + 1 + 1 by rw [z5, sizeA, sizeA])
          go_wp2_with (at_builtin; refine wpList_append_lies _ rfl _ _ 30 rfl w.heap.size 28 i0 _ 2 32 Try.underlying30 hi hz0 hz1 hz2 rfl (by decide) _ _ _ rfl ((unhide HX).1.own p) ⟨wr.heap.size + 1, 0, none⟩ 1 1 (e4uM x).cells rfl rfl ?dA ?eA (by decide) ?fA ?gA ?hA _ rfl ?_)
          case dA => exact (unhide HX).2.2.2.1
          case eA => exact cellsU_oneM (e4uM x)
          case fA => unfold maxLen; omega
          case gA => omega
          case hA => exact hz5
          intro g cp w6 hown6 hg6 hl6 hlt6
          obtain ⟨hR5, hE5, hput, _, T5⟩ := unhide HX
          have hown6 : w6.ownsRow w.heap.size 28 2 (.slice (some ⟨g, 0, none⟩) ((Sk p).length + 1) cp) (Sk p ++ [e4uM x]).length ((Sk p ++ [e4uM x]).map U2.cells).flatten := by simpa using hown6
          obtain ⟨es5, clock5, hat5⟩ := T5.map
          have hE6 := hE5.turn (hR5.map p hat5.heap hg6)
          obtain ⟨hi6, hset⟩ := hput (.slice (some ⟨g, 0, none⟩) ((Sk p).length + 1) cp)
          obtain ⟨w7, hrun7, T7⟩ := run_storeU 57 hE6 hi6 (.slice (some ⟨g, 0, none⟩) ((Sk p).length + 1) cp)
          rw [hset] at T7
          have hR6 := hR5.push p (e4uM x) hg6 (hl6.imp id fun h => h.trans (unhide HZ).symm) hown6
          have hR7 := hR6.turn hE6.map T7
          have e7 : rowM (putM M p (.slice (some ⟨g, 0, none⟩) ((Sk p).length + 1) cp)) = fun y => if y = p then .slice (some ⟨g, 0, none⟩) ((Sk p).length + 1) cp else rowM M y := funext fun y => rowM_put _ _ _ _
          have hD7 : DownR w7 w.heap.size w.heap.size (stepD (e4uM x) Sk p) := ⟨Nat.le_refl _, _, T7.map, by rw [e7]; exact hR7⟩
          have he6 : w6.heap[EB]? = w5.heap[EB]? := by
            refine hg6.block EB (Array.getElem?_eq_some_iff.1 (unhide HE5)).1 (fun e => ?_)
            rcases (hR5.own p).2 with ⟨hv, _⟩ | ⟨g', cap', cur', hv, _, hgb, _⟩
            · rw [hv] at e
              cases e
            · rw [hv] at e
              have e : EB = g' := by simpa [Value.ownBlock] using e
              have h5 := unhide HE5
              rw [e, hgb] at h5
              cases h5
          have he7 := (T7.other EB (by omega)).trans (he6.trans (unhide HE5))
          have hb7 := ((unhide HB5).grown hg6 hz5 (fun k hk => ((hR5.own p).lt k hk).1)).trans (T7.below _ (Nat.le_refl _))
          have HF := hide (⟨hb7, (Array.getElem?_eq_some_iff.1 he7).1, he7, by rw [unhide HSk]; exact hD7⟩ : Below w.heap.size w w7 ∧ EB < w7.heap.size ∧ w7.heap[EB]? = _ ∧ DownR w7 w.heap.size w.heap.size (rowD (e4uM x) S (ps.take (k + 1))))
          clear hb7 he7 he6 hD7 e7 hR7 hR6 T7 hset hi6 hE6 hat5 hown6 hl6 hlt6 hg6 hR5 hE5 hput T5 HX HB5 HE5 a0 a1 d0 d1 c0 c1 hrun
          go_wp2
          go_roundw
          case rel =>
            obtain ⟨h1, h2, h3, h4⟩ := unhide HF
            exact ⟨k + 1, by go_num, by omega, h1, h2, h3, h4⟩
          case measure =>
            simp only [intOf]
            omega
        · have i2 : ¬ (k : Int) < (ps.length : Int) := by omega
          obtain rfl : k = ps.length := by omega
          rw [List.take_length, ← unhide HS] at hDi
          have HDi := hide hDi
          clear hDi
          go_wp2
          go_roundw
          case rel => exact ⟨j + 1, by go_num, by omega, hbi, by omega, unhide HDi⟩
          case measure =>
            simp only [intOf]
            omega
    · have i1 : ¬ (j : Int) < (es.length : Int) := by omega
      obtain rfl : j = es.length := by omega
      rw [← (unhide HL).1, List.take_length] at hD
      have HMM := hide hD
      clear hD
      go_wp2
      go_ret
      exact ⟨_, rfl, unhide HMM, hbw⟩
end Go.Proofs.Ythmmplmppchfmaa

namespace Go.Proofs.Ythmmplmppchfmaa
open Go.RowKit Go.Sort

def beSp (ao : Option Addr) (n cap : Nat) (S : U2 → List U2) (u : U2) : Nat → Value → World → Prop
  | 0, v, _ => v = .slice ao n cap
  | 1, v, w => ∃ b B, v = .map (some b) ∧ DownR w B b S
  | 2, v, _ => v = .agg #[.string u.t, .string u.i]
  | 3, v, w => ∃ r, v = .slice (some ⟨r, 0, none⟩) 1 1 ∧ r < w.heap.size ∧ AtE2 w r 0 u
  | 4, v, w => ∃ b m, v = .map (some b) ∧ IsMap w b (setM m) ∧ ReachI S [u] (m, [])
  | 5, v, w => ∃ b m, v = .map (some b) ∧ IsMap w b (setM m) ∧ ReachI S [u] (m, [])
  | _ + 6, _, _ => True
theorem beSp_up {ao : Option Addr} {n cap : Nat} {S : U2 → List U2} {u : U2} {w w' : World} (hb : Below w.heap.size w w') : ∀ j v, beSp ao n cap S u j v w → beSp ao n cap S u j v w'
  | 0, _, h | 2, _, h => h
  | 1, _, ⟨b, B, e, h⟩ => ⟨b, B, e, h.below hb⟩
  | 3, _, ⟨r, e, h1, h2⟩ => ⟨r, e, Nat.lt_of_lt_of_le h1 hb.size, h2.below hb h1⟩
  | 4, _, ⟨b, m, e, h1, h2⟩ | 5, _, ⟨b, m, e, h1, h2⟩ => ⟨b, m, e, h1.below hb h1.lt, h2⟩
  | _ + 6, _, _ => trivial
theorem DownE.below {w w' : World} {es : List E4} {L : List (U2 × List U2)} (h : DownE w es L) (hb : Below w.heap.size w w') : DownE w' es L := by
  refine ⟨h.1, fun j hj hl => ?_⟩
  obtain ⟨h1, h2, h3, h4, h5⟩ := h.2 j hj hl
  exact ⟨h1, h2, h3.below hb, fun ad e hne => Nat.lt_of_lt_of_le (h4 ad e hne) hb.size, h5⟩
/-- Those that are met, but u itself. -/
def belP (u : U2) (m : List U2) (es : List E4) : List U2 := (es.map e4uM).filter fun y => decide (y ≠ u) && decide (y ∈ m)
theorem belP_snoc (u : U2) (m : List U2) (es : List E4) (j : Nat) (hj : j < es.length) : belP u m (es.take (j + 1)) = if e4uM es[j] ≠ u ∧ e4uM es[j] ∈ m then belP u m (es.take j) ++ [e4uM es[j]] else belP u m (es.take j) := by
  unfold belP
  rw [List.take_succ_eq_append_getElem hj, List.map_append, List.filter_append]
  by_cases h : e4uM es[j] ≠ u ∧ e4uM es[j] ∈ m
  · rw [if_pos h]
    simp [h.1, h.2]
  · rw [if_neg h]
    have : (decide (e4uM es[j] ≠ u) && decide (e4uM es[j] ∈ m)) = false := by
      rw [Bool.eq_false_iff]
      intro hh
      rw [Bool.and_eq_true, decide_eq_true_eq, decide_eq_true_eq] at hh
      exact h hh
    simp only [List.map_cons, List.map_nil, List.filter_cons, this, List.filter_nil]
    simp

set_option maxHeartbeats 4000000 in
set_option maxRecDepth 1000000 in
theorem below_any (es : List E4) (L : List (U2 × List U2)) (ao : Option Addr) (cap : Nat) (u : U2) (w : World) (hl : es.length ≤ 1000) (hr : RowG w ao 4 (es.map E4.cells)) (hL : DownE w es L) (hlen : ∀ y, (downS L y).length ≤ 1000) :
    Calls Try.prog 13 #[.slice ao es.length cap, u.val] w fun x w' => Below w.heap.size w w' ∧ ∃ v m, x = .returned v ∧ ReachI (downS L) [u] (m, []) ∧ w'.ownsRow w.heap.size 28 2 v (belP u m es).length ((belP u m es).map U2.cells).flatten := by
  have b1 := belowA w (.cells #[.string u.t, .string u.i] 28)
  have z1 := sizeA w (.cells #[.string u.t, .string u.i] 28)
  have A1 : AtE2 (w.alloc (.cells #[.string u.t, .string u.i] 28)) w.heap.size 0 u := ⟨by simp, by simp⟩
  have HR := hide hr
  have HL := hide hL
  have HN := hide hlen
  clear hr hL hlen
  obtain ⟨i0, hi, hz0, hz1, hz2⟩ := info_parts infoUidM
  unfold U2.val
  go_enter Try.func13, Try.ntmps13
  go_upto_region 1 with fail
  generalize w.alloc _ = w2 at *
  refine wp_specs_put 5 (beSp ao es.length cap (downS L) u) (fun w' => Below w2.heap.size w2 w') (by kernel_rfl) (by kernel_rfl) (Below.refl _ w2).drew ?_ ?_
  · intro j o hj ho a' w' hR hdep hslot K hK
    have b0' := b1.trans (hR.mono b1.size)
    have hc : j = 0 ∨ j = 1 ∨ j = 2 ∨ j = 3 ∨ j = 4 := by omega
    rcases hc with rfl | rfl | rfl | rfl | rfl
    · cases ho
      have e : a'.tmps.getD 0 undef = .slice ao es.length cap := hslot 0 (by decide)
      unfold Oper.wp
      go_simp
      exact hK _ _ rfl hR (fun _ _ h => h)
    · cases ho
      have e : a'.tmps.getD 9 undef = .slice ao es.length cap := hdep 0 (by kernel_rfl)
      have UP := downward_any es L ao cap w' hl ((unhide HR).below b0') ((unhide HL).below b0')
      unfold Oper.wp
      go_simp
      refine UP.mono ?_
      rintro _ w3 ⟨b, rfl, hm, b3⟩
      exact hK _ _ ⟨b, _, rfl, hm⟩ (hR.trans (b3.mono hR.size)) (beSp_up b3)
    · cases ho
      have e : a'.tmps.getD 3 undef = .pointer (some ⟨w.heap.size, 0, none⟩) := hslot 3 (by decide)
      obtain ⟨c0, c1⟩ := A1.below hR (by omega)
      simp only [Nat.zero_add] at c1
      unfold Oper.wp
      go_simp
      exact hK _ _ rfl hR (fun _ _ h => h)
    · cases ho
      have e1 : a'.tmps.getD 11 undef = .agg #[.string u.t, .string u.i] := hdep 2 (by kernel_rfl)
      have e1' : a'.tmps[11]?.getD undef = .agg #[.string u.t, .string u.i] := by simpa using e1
      unfold Oper.wp
      go_simp
      exact hK _ _ ⟨w'.heap.size, rfl, by simp, ⟨by simp, by simp⟩⟩ (hR.alloc hR.size _) (beSp_up (belowA _ _))
    · cases ho
      obtain ⟨b, B, e1, hD⟩ : beSp ao es.length cap (downS L) u 1 (a'.tmps.getD 10 undef) w' := hdep 1 (by kernel_rfl)
      obtain ⟨r, e2, hr1, hr2⟩ : beSp ao es.length cap (downS L) u 3 (a'.tmps.getD 12 undef) w' := hdep 3 (by kernel_rfl)
      obtain ⟨M, hm, hRows⟩ := hD.rows
      have RE := reach_any (downS L) M b [u] (u :: L.map Prod.fst) (some ⟨r, 0, none⟩) 1 w' (hRows.steps (unhide HN)) hm (fun j hj => by
        obtain rfl : j = 0 := by simp at hj; omega
        refine ⟨r, 0, rfl, hr1, fun c v hv => ?_⟩
        simp only [List.map_cons, List.map_nil, List.getElem_cons_zero, U2.cells] at hv
        match c, hv with
        | 0, hv => cases hv; simpa using hr2.c0
        | 1, hv => cases hv; simpa using hr2.c1
        | _ + 2, hv => simp at hv) (by simp) (fun ad e _ => by cases e; exact hr1) (fun x hx => by simp at hx; simp [hx]) (fun x v hv => by
          rcases (mem_downS x v L (fun _ => [])).1 hv with h | ⟨q, hq, e, _⟩
          · cases h
          · rw [e]
            exact List.mem_cons_of_mem _ (List.mem_map_of_mem hq)) (by have := (unhide HL).1; simp; omega)
      clear hr2 hm hRows hD
      simp only [List.length_cons, List.length_nil, Nat.zero_add] at RE
      unfold Oper.wp
      go_simp
      refine RE.mono ?_
      rintro _ w3 ⟨b3, mb, m, rfl, hmm, _, hI⟩
      exact hK _ _ ⟨mb, m, rfl, hmm, hI⟩ (hR.trans (b3.mono hR.size)) (beSp_up b3)
  · intro v w' hR hall
    have f0 := hall 0 (by decide)
    obtain ⟨g1, B1, f1, _⟩ := hall 1 (by decide)
    have f2 := hall 2 (by decide)
    obtain ⟨g3, f3, _, _⟩ := hall 3 (by decide)
    obtain ⟨mb, m, f4, hm, hI⟩ := hall 4 (by decide)
    unfold beSp at f0 f2
    have b0' := b1.trans (hR.mono b1.size)
    have A2 := A1.below hR (by omega)
    have HM := hide hm
    have HI := hide hI
    clear hall hm hI A1
    simp only [putAll, dstOf, List.getElem?_cons_zero, List.getElem?_cons_succ, Option.bind_some, List.drop_succ_cons, List.drop_zero, f0, f1, f2, f3, f4]
    clear f0 f1 f2 f3 f4
    simp only [Act.put, List.setIfInBounds_toArray, List.set_cons_succ, List.set_cons_zero]
    go_wp2
    have hw' : w.heap.size < w'.heap.size := Nat.lt_of_lt_of_le (by omega) hR.size
    go_loopw [6, 16] (fun v iv wr => ∃ i : Nat, iv = .int .i64 i ∧ i ≤ es.length ∧ Below w.heap.size w wr ∧ w.heap.size < wr.heap.size ∧ AtE2 wr w.heap.size 0 u ∧ IsMap wr mb (setM m) ∧ wr.ownsRow (w.heap.size + 1) 28 2 v (belP u m (es.take i)).length ((belP u m (es.take i)).map U2.cells).flatten) (fun _ iv _ => es.length - (intOf iv).toNat)
    case atStart => exact ⟨0, by go_num, Nat.zero_le _, b0', hw', A2, unhide HM, World.ownsRow_nil _ _ _ _⟩
    case round =>
      clear HM A2
      obtain ⟨j, rfl, hj, hbw, hwz, AU, hm, hown⟩ := hrel
      have k0 : (0 : Int) ≤ (j : Int) := by omega
      by_cases hlt2 : j < es.length
      · have i1 : (j : Int) < (es.length : Int) := by omega
        have HS := hide (belP_snoc u m es j hlt2)
        have hbl : (belP u m (es.take j)).length ≤ es.length := Nat.le_trans (List.length_filter_le _ _) (by rw [List.length_map, List.length_take]; omega)
        obtain ⟨b, off, rfl, hb, hcx⟩ := rowG_at (unhide HR) hbw hlt2
        have A : AtE4 wr b (off + j * 4) es[j] := AtE4.of hcx
        obtain ⟨x, hx⟩ : ∃ x, x = es[j] := ⟨_, rfl⟩
        rw [← hx] at A HS
        clear hx hcx
        obtain ⟨bl, hbl2⟩ : ∃ bl, bl = belP u m (es.take j) := ⟨_, rfl⟩
        rw [← hbl2] at HS hbl hown
        clear hbl2
        have z2 := sizeA wr (.cells #[.string x.t, .string x.i, .slice x.po x.pl x.pc, .slice x.ao x.al x.ac] 40)
        have he2 := heap_alloc_new wr (.cells #[.string x.t, .string x.i, .slice x.po x.pl x.pc, .slice x.ao x.al x.ac] 40)
        have b2 := belowA wr (.cells #[.string x.t, .string x.i, .slice x.po x.pl x.pc, .slice x.ao x.al x.ac] 40)
        have AU2 := AU.below b2 hwz
        have hm2 := hm.below b2 hm.lt
        have hown2 := ownM_kept hown fun g _ _ _ hg => b2.block g (Array.getElem?_eq_some_iff.1 hg).1
        have hb2 := hbw.trans (b2.mono hbw.size)
        have NQ := binNeqUid (e4uM x) u
        have HA := has_any m mb (e4uM x) _ hm2
        unfold U2.val e4uM at HA
        unfold e4uM at NQ
        simp only at NQ HA
        have HX := hide (⟨he2, AU2, hm2, hown2, hb2⟩ : _ ∧ _ ∧ _ ∧ _ ∧ _)
        obtain ⟨a0, a1, a2, a3⟩ := A
        obtain ⟨d0, d1⟩ := AU2
        simp only [Nat.zero_add] at d1
        clear hm hown AU he2 hm2 hown2 hb2
        by_cases heq : (⟨x.t, x.i⟩ : U2) = u
        · rw [decide_eq_true heq, Bool.not_true] at NQ
          have HS2 := hide (show belP u m (es.take (j + 1)) = bl by rw [unhide HS]; exact if_neg fun h => h.1 heq)
          clear HS HA
          go_wp2
          clear a0 a1 a2 a3 d0 d1 NQ
          go_roundw
          case rel =>
            obtain ⟨_, h2, h3, h4, h5⟩ := unhide HX
            exact ⟨j + 1, by go_num, by omega, h5, by omega, h2, h3, by rw [unhide HS2]; exact h4⟩
          case measure =>
            simp only [intOf]
            omega
        · rw [decide_eq_false heq, Bool.not_false] at NQ
          go_wp2_with fail
          clear a0 a1 a2 a3 d0 d1 NQ
          generalize wr.alloc _ = w3 at *
          refine HA.mono ?_
          clear HA
          rintro _ w4 ⟨rfl, b4⟩
          obtain ⟨he2, AU2, hm2, hown2, hb2⟩ := unhide HX
          have he4 := (b4.block wr.heap.size (by omega)).trans he2
          have AU4 := AU2.below b4 (by omega)
          have hm4 := hm2.below b4 hm2.lt
          have hown4 := ownM_kept hown2 fun g _ _ _ hg => b4.block g (Array.getElem?_eq_some_iff.1 hg).1
          have hb4 := hb2.trans (b4.mono hb2.size)
          have hz4 : wr.heap.size < w4.heap.size := Nat.lt_of_lt_of_le (by omega) b4.size
          clear HX he2 AU2 hm2 hown2 hb2 b4 b2
          by_cases hmem : (⟨x.t, x.i⟩ : U2) ∈ m
          · rw [decide_eq_true hmem]
            have HS2 := hide (show belP u m (es.take (j + 1)) = bl ++ [e4uM x] by rw [unhide HS]; exact if_pos ⟨heq, hmem⟩)
            have c0 : w4.cell? ⟨wr.heap.size, 0, none⟩ = some (.string x.t) := by rw [Lib.cell_of_heap he4]; rfl
            have c1 : w4.cell? ⟨wr.heap.size, 1, none⟩ = some (.string x.i) := by rw [Lib.cell_of_heap he4]; rfl
            have Hown := hide hown4
            have HM4 := hide hm4
            have HA4 := hide AU4
            clear hown4 hm4 AU4 he4 HS
            go_wp2_with (at_builtin; refine wpList_append_own _ rfl _ _ 30 rfl (w.heap.size + 1) 28 i0 _ 2 32 Try.underlying30 hi hz0 hz1 hz2 rfl (by decide) _ _ _ rfl ((unhide Hown).alloc _) ⟨w4.heap.size, 0, none⟩ 1 1 (e4uM x).cells rfl rfl ?dA ?eA ?fA ?gA ?hA ?_)
            case dA => exact newsU_rowM w4 (e4uM x) _ rfl
            case eA => exact cellsU_oneM (e4uM x)
            case fA => unfold maxLen; omega
            case gA => omega
            case hA => simp; omega
            intro v5 w5 hown5 hg5 _
            have hown5 : w5.ownsRow (w.heap.size + 1) 28 2 v5 (bl ++ [e4uM x]).length ((bl ++ [e4uM x]).map U2.cells).flatten := by simpa using hown5
            have b5 := belowA w4 (.cells #[.string x.t, .string x.i] 28)
            have AU5 := (unhide HA4).below b5 (by omega)
            have hm5 := (unhide HM4).below b5 (unhide HM4).lt
            have hlo := fun k hk => (((unhide Hown).alloc (.cells #[.string x.t, .string x.i] 28)).lt k hk).1
            have z5 := sizeA w4 (.cells #[.string x.t, .string x.i] 28)
            have hkU : w5.heap[w.heap.size]? = (w4.alloc (.cells #[.string x.t, .string x.i] 28)).heap[w.heap.size]? := hg5.block _ (by omega) (fun e => by have := hlo _ e.symm; omega)
            have AU6 : AtE2 w5 w.heap.size 0 u := ⟨(World.cell?_of_block hkU).trans AU5.c0, (World.cell?_of_block hkU).trans AU5.c1⟩
            have hm6 : IsMap w5 mb (setM m) := hm5.turn (by
              obtain ⟨es5, clock5, hat5⟩ := hm5
              refine hg5.block mb (Array.getElem?_eq_some_iff.1 hat5.heap).1 (fun e => ?_)
              rcases ((unhide Hown).alloc (.cells #[.string x.t, .string x.i] 28)).2 with ⟨hv, _⟩ | ⟨g', cap', cur', hv, _, hgb, _⟩
              · rw [hv] at e
                cases e
              · rw [hv] at e
                have e : mb = g' := by simpa [Value.ownBlock] using e
                have h5 := hat5.heap
                rw [e, hgb] at h5
                cases h5)
            have hb6 := (hb4.trans (b5.mono hb4.size)).grown hg5 (by omega) (fun k hk => by have := hlo k hk; omega)
            have hz6 := hg5.size
            have HF := hide (⟨hb6, by omega, AU6, hm6, by rw [unhide HS2]; exact hown5⟩ : Below w.heap.size w w5 ∧ w.heap.size < w5.heap.size ∧ AtE2 w5 w.heap.size 0 u ∧ IsMap w5 mb (setM m) ∧ w5.ownsRow (w.heap.size + 1) 28 2 v5 (belP u m (es.take (j + 1))).length ((belP u m (es.take (j + 1))).map U2.cells).flatten)
            clear hb6 hm6 AU6 hkU hm5 AU5 b5 hown5 hg5 c0 c1 hlo
            go_wp2
            go_roundw
            case rel =>
              obtain ⟨h1, h2, h3, h4, h5⟩ := unhide HF
              exact ⟨j + 1, by go_num, by omega, h1, h2, h3, h4, h5⟩
            case measure =>
              simp only [intOf]
              omega
          · rw [decide_eq_false hmem]
            have HS2 := hide (show belP u m (es.take (j + 1)) = bl by rw [unhide HS]; exact if_neg fun h => hmem h.2)
            have HF := hide (⟨hb4, by omega, AU4, hm4, by rw [unhide HS2]; exact hown4⟩ : Below w.heap.size w w4 ∧ w.heap.size < w4.heap.size ∧ AtE2 w4 w.heap.size 0 u ∧ IsMap w4 mb (setM m) ∧ w4.ownsRow (w.heap.size + 1) 28 2 _ (belP u m (es.take (j + 1))).length ((belP u m (es.take (j + 1))).map U2.cells).flatten)
            clear hown4 hm4 AU4 he4 HS
            go_wp2
            go_roundw
            case rel =>
              obtain ⟨h1, h2, h3, h4, h5⟩ := unhide HF
              exact ⟨j + 1, by go_num, by omega, h1, h2, h3, h4, h5⟩
            case measure =>
              simp only [intOf]
              omega
      · have i1 : ¬ (j : Int) < (es.length : Int) := by omega
        obtain rfl : j = es.length := by omega
        rw [List.take_length] at hown
        have HO := hide hown
        clear hown hm AU
        go_wp2
        go_ret
        refine ⟨hbw, _, rfl, m, unhide HI, (unhide HO).1, (unhide HO).2.imp id ?_⟩
        rintro ⟨g, cp, cur, h1, h2, h3⟩
        exact ⟨g, cp, cur, h1, by omega, h3⟩
end Go.Proofs.Ythmmplmppchfmaa
