/-
  Maps keyed by uids, in memory: what is looked up, laid, struck.
  Maps keyed by uids: one more laid, one struck; above.uids.has, above.upward: what they return.
  above.upward: what it returns; above.reach's inner function.
  above.reach's inner function: each that is new is met, and waits.
-/
import Derived.Test.YthmmplmppchfmaaGdU
import Derived.MapKept
import Derived.Test.YthmmplmppchfmaaWorlds
import Derived.Laws.AppendOwn
import Derived.OwnWalk
namespace Go.Proofs.Ythmmplmppchfmaa
open Go.RowKit Go.Sort

/-- A block that is a map: its keys and what lies at them, in the order in which they came. -/
structure AtMap (w : World) (b : Nat) (M : List (U2 × Value)) (es : Array MapEntry) (clock : Nat) : Prop where
  heap : w.heap[b]? = some (.map es clock)
  rep : es.toList.map (fun e => (e.key, e.val)) = M.map (fun p => (p.1.val, p.2))
  rise : (es.toList.map MapEntry.born).Pairwise (· < ·)
  old : ∀ e ∈ es.toList, e.born < clock
def IsMap (w : World) (b : Nat) (M : List (U2 × Value)) : Prop := ∃ es clock, AtMap w b M es clock
theorem IsMap.lt {w : World} {b : Nat} {M : List (U2 × Value)} (h : IsMap w b M) : b < w.heap.size := by
  obtain ⟨es, clock, h⟩ := h
  exact (Array.getElem?_eq_some_iff.1 h.heap).1
theorem IsMap.turn {w w' : World} {b : Nat} {M : List (U2 × Value)} (h : IsMap w b M) (hk : w'.heap[b]? = w.heap[b]?) : IsMap w' b M := by
  obtain ⟨es, clock, h⟩ := h
  exact ⟨es, clock, hk.trans h.heap, h.rep, h.rise, h.old⟩
theorem IsMap.below {w w' : World} {b B : Nat} {M : List (U2 × Value)} (h : IsMap w b M) (hb : Below B w w') (hlt : b < B) : IsMap w' b M := h.turn (hb.block b hlt)
theorem isMap_new (w : World) : IsMap (w.alloc (.map #[] 0)) w.heap.size [] := ⟨#[], 0, by
  show (w.heap.push _)[w.heap.size]? = _
  simp, rfl, List.Pairwise.nil, fun _ h => by cases h⟩

def lookM (M : List (U2 × Value)) (u : U2) : Option (Nat × Value) := (M.findIdx? fun p => decide (u = p.1)).map fun i => (i, (M[i]?.map Prod.snd).getD (.bool false))
theorem run_asking (u : U2) (W : World) : ∀ (es : List MapEntry) (M : List (U2 × Value)) (i : Nat), es.map (fun e => (e.key, e.val)) = M.map (fun p => (p.1.val, p.2)) →
    (Instr.findAsking 28 u.val es i).run Try.prog W = .ok ((M.findIdx? fun p => decide (u = p.1)).map fun j => (i + j, (M[j]?.map Prod.snd).getD (.bool false))) W
  | [], [], i, _ => rfl
  | [], _ :: _, _, h => by simp at h
  | _ :: _, [], _, h => by simp at h
  | e :: es, p :: M, i, h => by
    simp only [List.map_cons, List.cons.injEq, Prod.mk.injEq] at h
    obtain ⟨⟨h1, h2⟩, h3⟩ := h
    have ih := run_asking u W es M (i + 1) h3
    unfold Instr.findAsking
    rw [h1]
    simp only [Sem.run_bind, equalUid, Result.andThen_ok]
    by_cases hu : u = p.1
    · rw [decide_eq_true hu]
      simp [List.findIdx?_cons, hu, h2]
    · rw [decide_eq_false hu]
      simp only [Bool.false_eq_true, if_false]
      rw [ih]
      simp only [List.findIdx?_cons, decide_eq_false hu, Bool.false_eq_true, if_false, Option.map_map]
      congr 2
      funext j
      simp [Nat.add_assoc, Nat.add_comm 1 j]
theorem run_findU (u : U2) (W : World) (es : List MapEntry) (M : List (U2 × Value)) (h : es.map (fun e => (e.key, e.val)) = M.map (fun p => (p.1.val, p.2))) :
    (Instr.findKey 28 u.val es).run Try.prog W = .ok (lookM M u) W := by
  have ha := run_asking u W es M 0 h
  unfold Instr.findKey
  simp only [Sem.run_bind, run_underlying Try.underlying28, Result.andThen_ok]
  cases es with
  | nil =>
    cases M with
    | nil => rfl
    | cons p M => simp at h
  | cons e es =>
    have : ∀ fs, Instr.findNow (TypeDesc.struct fs) u.val (e :: es) 0 = none := fun _ => rfl
    rw [this]
    simp only
    rw [ha]
    unfold lookM
    simp
theorem run_checkS (s : ByteArray) (W : World) (b : Bool) (n : Nat) : (Instr.checkKey b (n + 1) 9 (.string s)).run Try.prog W = .ok () W := by
  rw [Instr.checkKey]
  simp only [Sem.run_bind, run_underlying Try.underlying9, Result.andThen_ok]
  rfl
theorem run_checkU2 (u : U2) (W : World) (b : Bool) (n : Nat) : (Instr.checkKey b (n + 2) 28 u.val).run Try.prog W = .ok () W := by
  unfold U2.val
  rw [Instr.checkKey]
  simp [go_sem, run_checkS]
theorem run_checkU (u : U2) (W : World) (b : Bool) : (Instr.checkKey b 10000 28 u.val).run Try.prog W = .ok () W := run_checkU2 u W b 9998

/-- What is looked up. -/
def gotM (ok : Bool) (z : Value) : Option (Nat × Value) → Value
  | some (_, v) => if ok then .tuple #[v, .bool true] else v
  | none => if ok then .tuple #[z, .bool false] else z
theorem run_lookU {t e : TypeId} (ht : Try.prog.underlying t = some (.map 28 e)) (z : Value) (hz : ∀ W, (zeroValue e).run Try.prog W = .ok z W) {w : World} {b : Nat} {M : List (U2 × Value)} (h : IsMap w b M) (u : U2) (ok : Bool) :
    (Instr.lookup t (.map (some b)) u.val ok).run Try.prog w = .ok (gotM ok z (lookM M u)) w := by
  obtain ⟨es, clock, h⟩ := h
  unfold Instr.lookup
  simp only [Sem.run_bind, run_underlying ht, Result.andThen_ok, MapKept.run_getObj_map h.heap, Sem.run_pure, run_checkU, run_findU u w es.toList M h.rep]
  cases hl : lookM M u with
  | none => simp [hz, gotM]
  | some p => simp [gotM]
end Go.Proofs.Ythmmplmppchfmaa

namespace Go.Proofs.Ythmmplmppchfmaa
open Go.RowKit Go.Sort

theorem belowA (w : World) (o : Obj) : Below w.heap.size w (w.alloc o) := (Below.refl _ w).alloc (Nat.le_refl _) o
theorem sizeA (w : World) (o : Obj) : (w.alloc o).heap.size = w.heap.size + 1 := by simp
def putM (M : List (U2 × Value)) (u : U2) (v : Value) : List (U2 × Value) :=
  match M.findIdx? fun p => decide (u = p.1) with
  | some i => M.set i (u, v)
  | none => M ++ [(u, v)]
/-- A map's block turned. -/
structure TurnM (w w' : World) (b : Nat) (M : List (U2 × Value)) : Prop where
  map : IsMap w' b M
  other : ∀ k, k ≠ b → w'.heap[k]? = w.heap[k]?
  size : w'.heap.size = w.heap.size
  below : ∀ B, B ≤ b → Below B w w'
theorem turnM_of {w : World} {b : Nat} {o : Obj} {M : List (U2 × Value)} {es : Array MapEntry} {clock : Nat} (ho : o = .map es clock) (hb : b < w.heap.size) (hrep : es.toList.map (fun e => (e.key, e.val)) = M.map (fun p => (p.1.val, p.2))) (hrise : (es.toList.map MapEntry.born).Pairwise (· < ·)) (hold : ∀ e ∈ es.toList, e.born < clock) :
    TurnM w { w with heap := w.heap.setIfInBounds b o } b M := by
  have hk : ∀ k, k ≠ b → (w.heap.setIfInBounds b o)[k]? = w.heap[k]? := fun k hk => by
    rw [Array.getElem?_setIfInBounds, if_neg (fun h => hk h.symm)]
  refine ⟨⟨es, clock, ?_, hrep, hrise, hold⟩, hk, by simp, fun B hB => ⟨rfl, rfl, rfl, by simp, fun k hkB => hk k (by omega)⟩⟩
  show (w.heap.setIfInBounds b o)[b]? = _
  rw [Array.getElem?_setIfInBounds, if_pos rfl, if_pos hb, ho]
theorem same_bitsU (u : U2) (n : Nat) : Instr.sameBits (n + 1) u.val u.val = true := by
  unfold U2.val
  simp [Instr.sameBits, (MapKept.bytes_beq _ _).2]
theorem run_putU {t e : TypeId} (ht : Try.prog.underlying t = some (.map 28 e)) {w : World} {b : Nat} {M : List (U2 × Value)} (h : IsMap w b M) (u : U2) (v : Value) :
    ∃ w', (Instr.mapUpdate t (.map (some b)) u.val v).run Try.prog w = .ok () w' ∧ TurnM w w' b (putM M u v) := by
  have hlt := h.lt
  obtain ⟨es, clock, h⟩ := h
  have hlen : es.toList.length = M.length := by
    have := congrArg List.length h.rep
    simpa using this
  unfold Instr.mapUpdate
  simp only [Sem.run_bind, run_underlying ht, Result.andThen_ok, MapKept.run_getObj_map h.heap, run_checkU, run_findU u w es.toList M h.rep]
  unfold lookM putM
  cases hf : M.findIdx? fun p => decide (u = p.1) with
  | none =>
    simp only [Option.map_none, MapKept.run_setObj_map _ h.heap]
    refine ⟨_, rfl, turnM_of rfl hlt ?_ ?_ ?_⟩
    · rw [Array.toList_push, List.map_append, List.map_append, h.rep]
      rfl
    · rw [Array.toList_push, List.map_append, List.pairwise_append]
      refine ⟨h.rise, List.pairwise_singleton _ _, fun x hx y hy => ?_⟩
      obtain ⟨e', he', rfl⟩ := List.mem_map.1 hx
      have hy : y = clock := by simpa using hy
      rw [hy]
      exact h.old e' he'
    · intro e' he'
      rw [Array.toList_push, List.mem_append] at he'
      rcases he' with he' | he'
      · have := h.old e' he'
        omega
      · rw [List.mem_singleton.1 he']
        exact Nat.lt_succ_self _
  | some i =>
    obtain ⟨hi, hp, _⟩ := List.findIdx?_eq_some_iff_getElem.1 hf
    have hi' : i < es.size := by
      have : es.toList.length = es.size := by simp
      omega
    have hu : u = M[i].1 := by simpa using hp
    have hkv : (es[i].key, es[i].val) = (M[i].1.val, M[i].2) := by
      have h1 := congrArg (fun l => l[i]?) h.rep
      simp only [List.getElem?_map] at h1
      rw [List.getElem?_eq_getElem (by simpa using hi'), List.getElem?_eq_getElem hi] at h1
      simpa using h1
    have hkey : es[i].key = u.val := by
      rw [hu]
      exact congrArg Prod.fst hkv
    have hst : (Instr.keyThatStays u.val u.val).run Try.prog w = .ok u.val w := by
      unfold Instr.keyThatStays
      rw [show (10000 : Nat) = 9999 + 1 from rfl, same_bitsU]
      rfl
    simp only [Option.map_some, Array.getElem?_eq_getElem hi', Option.getD_some, hkey, hst, Sem.run_bind, Result.andThen_ok, MapKept.run_setObj_map _ h.heap]
    have hborn : (es.modify i fun e => { e with key := u.val, val := v }).toList.map MapEntry.born = es.toList.map MapEntry.born := by
      rw [Array.toList_modify]
      refine List.ext_getElem? fun j => ?_
      rw [List.getElem?_map, List.getElem?_map, List.getElem?_modify]
      cases es.toList[j]? with
      | none => rfl
      | some x =>
        simp only [Option.map_some]
        split <;> rfl
    refine ⟨_, rfl, turnM_of rfl hlt ?_ ?_ ?_⟩
    · rw [Array.toList_modify]
      refine List.ext_getElem? fun j => ?_
      have h1 := congrArg (fun l => l[j]?) h.rep
      simp only [List.getElem?_map] at h1
      rw [List.getElem?_map, List.getElem?_map, List.getElem?_modify, List.getElem?_set]
      by_cases hij : i = j
      · subst hij
        rw [List.getElem?_eq_getElem (by simpa using hi'), if_pos rfl, if_pos hi]
        simp
      · rw [if_neg hij]
        cases hx : es.toList[j]? with
        | none =>
          rw [hx] at h1
          simpa using h1
        | some x =>
          rw [hx] at h1
          simpa [hij] using h1
    · rw [hborn]
      exact h.rise
    · intro x hx
      have : x.born ∈ es.toList.map MapEntry.born := by rw [← hborn]; exact List.mem_map_of_mem hx
      obtain ⟨y, hy, e'⟩ := List.mem_map.1 this
      rw [← e']
      exact h.old y hy

def hasM (M : List (U2 × Value)) (u : U2) : Bool := M.any fun p => decide (u = p.1)
theorem lookM_none {M : List (U2 × Value)} {u : U2} (h : hasM M u = false) : lookM M u = none := by
  unfold lookM
  rw [List.findIdx?_eq_none_iff.2 (fun p hp => by
    have h2 : ¬ hasM M u = true := by rw [h]; decide
    unfold hasM at h2
    rw [List.any_eq_true] at h2
    cases hd : decide (u = p.1) with
    | false => rfl
    | true => exact absurd ⟨p, hp, hd⟩ h2)]
  rfl
theorem lookM_some {M : List (U2 × Value)} {u : U2} (h : hasM M u = true) : ∃ i, ∃ hi : i < M.length, u = M[i].1 ∧ lookM M u = some (i, M[i].2) := by
  unfold hasM at h
  cases hf : M.findIdx? fun p => decide (u = p.1) with
  | none =>
    obtain ⟨p, hp, hd⟩ := List.any_eq_true.1 h
    have := List.findIdx?_eq_none_iff.1 hf p hp
    rw [this] at hd
    cases hd
  | some i =>
    obtain ⟨hi, hp, _⟩ := List.findIdx?_eq_some_iff_getElem.1 hf
    refine ⟨i, hi, by simpa using hp, ?_⟩
    unfold lookM
    rw [hf]
    simp [List.getElem?_eq_getElem hi]

/-- A map to nothing: a set. -/
def setM (l : List U2) : List (U2 × Value) := l.map fun u => (u, .agg #[])
theorem hasM_set (l : List U2) (u : U2) : hasM (setM l) u = decide (u ∈ l) := by
  unfold hasM setM
  rw [List.any_map]
  by_cases h : u ∈ l
  · rw [decide_eq_true h, List.any_eq_true]
    exact ⟨u, h, by simp⟩
  · rw [decide_eq_false h, ← Bool.not_eq_true, List.any_eq_true]
    rintro ⟨x, hx, hd⟩
    have : u = x := by simpa using hd
    exact h (by rw [this]; exact hx)
theorem zeroUnit (W : World) : (zeroValue 74).run Try.prog W = .ok (.agg #[]) W := by kernel_rfl
set_option maxHeartbeats 1000000 in
set_option maxRecDepth 100000 in
theorem has_any (l : List U2) (b : Nat) (u : U2) (w : World) (h : IsMap w b (setM l)) :
    Calls Try.prog 24 #[.map (some b), u.val] w fun e w' => e = .returned (.bool (decide (u ∈ l))) ∧ Below w.heap.size w w' := by
  have b1 := belowA w (.cells #[.string u.t, .string u.i] 28)
  have L := run_lookU (t := 55) (e := 74) Try.underlying55 (.agg #[]) zeroUnit (h.below b1 h.lt) u true
  have hv : gotM true (.agg #[]) (lookM (setM l) u) = .tuple #[.agg #[], .bool (decide (u ∈ l))] := by
    rw [← hasM_set]
    cases hh : hasM (setM l) u with
    | false =>
      rw [lookM_none hh]
      rfl
    | true =>
      obtain ⟨i, hi, _, e⟩ := lookM_some hh
      rw [e]
      simp [setM, gotM]
  rw [hv] at L
  clear hv h
  generalize decide (u ∈ l) = z at *
  unfold U2.val at L
  unfold U2.val
  have b2 := fun z' => belowA (w.alloc (.cells #[.string u.t, .string u.i] 28)) z'
  go_enter Try.func24, Try.ntmps24
  go_wp2
  go_ret
  exact ⟨rfl, b1.trans ((b2 _).mono b1.size)⟩
end Go.Proofs.Ythmmplmppchfmaa

namespace Go.Proofs.Ythmmplmppchfmaa
open Go.RowKit Go.Sort

/-- An entity's uid. -/
def e4uM (e : E4) : U2 := ⟨e.t, e.i⟩
def upM (es : List E4) : List (U2 × Value) := es.foldl (fun M e => putM M (e4uM e) (.slice e.po e.pl e.pc)) []
theorem upM_snoc (es : List E4) (j : Nat) (hj : j < es.length) : upM (es.take (j + 1)) = putM (upM (es.take j)) (e4uM es[j]) (.slice es[j].po es[j].pl es[j].pc) := by
  rw [List.take_succ_eq_append_getElem hj, upM, List.foldl_append]
  rfl
set_option maxHeartbeats 2000000 in
set_option maxRecDepth 1000000 in
theorem upward_any (es : List E4) (ao : Option Addr) (cap : Nat) (w : World) (hl : es.length ≤ 1048576) (hr : RowG w ao 4 (es.map E4.cells)) :
    Calls Try.prog 22 #[.slice ao es.length cap] w fun x w' => ∃ b, x = .returned (.map (some b)) ∧ IsMap w' b (upM es) ∧ Below w.heap.size w w' ∧ w.heap.size ≤ b := by
  have b1 := belowA w (.map #[] 0)
  have HM := hide (isMap_new w)
  have hlt : w.heap.size < (w.alloc (.map #[] 0)).heap.size := by rw [sizeA]; omega
  have hmk : ∀ W : World, (Instr.makeMap 57 none).run Try.prog W = .ok (.map (some W.heap.size)) (W.alloc (.map #[] 0)) := fun _ => rfl
  go_enter Try.func22, Try.ntmps22
  go_wp2
  clear hmk
  generalize w.alloc _ = w1 at *
  go_loopw [9] (fun iv wr => ∃ i : Nat, iv = .int .i64 i ∧ i ≤ es.length ∧ Below w.heap.size w wr ∧ w.heap.size < wr.heap.size ∧ IsMap wr w.heap.size (upM (es.take i))) (fun iv _ => es.length - (intOf iv).toNat)
  case atStart => exact ⟨0, by go_num, Nat.zero_le _, b1, hlt, unhide HM⟩
  case round =>
    clear HM
    obtain ⟨j, rfl, hj, hbw, hwz, hmap⟩ := hrel
    have k0 : (0 : Int) ≤ (j : Int) := by omega
    by_cases hlt2 : j < es.length
    · have i1 : (j : Int) < (es.length : Int) := by omega
      have HS := hide (upM_snoc es j hlt2)
      obtain ⟨b, off, rfl, hb, hcx⟩ := rowG_at hr hbw hlt2
      have A : AtE4 wr b (off + j * 4) es[j] := AtE4.of hcx
      obtain ⟨x, hx⟩ : ∃ x, x = es[j] := ⟨_, rfl⟩
      rw [← hx] at A HS
      clear hx hcx
      have b2 := belowA wr (.cells #[.string x.t, .string x.i, .slice x.po x.pl x.pc, .slice x.ao x.al x.ac] 40)
      obtain ⟨w3, hrun, T⟩ := run_putU (t := 57) (e := 30) Try.underlying57 (hmap.below b2 hwz) (e4uM x) (.slice x.po x.pl x.pc)
      unfold U2.val e4uM at hrun
      simp only at hrun
      have HT := hide T
      clear T hmap
      obtain ⟨a0, a1, a2, a3⟩ := A
      go_wp2
      clear a0 a1 a2 a3 hrun
      go_roundw
      case rel =>
        have T := unhide HT
        have hb2 := hbw.trans (b2.mono hbw.size)
        refine ⟨j + 1, by go_num, by omega, hb2.trans (T.below _ (Nat.le_refl _)), ?_, ?_⟩
        · rw [T.size, sizeA]
          omega
        · rw [unhide HS]
          exact T.map
      case measure =>
        simp only [intOf]
        omega
    · have i1 : ¬ (j : Int) < (es.length : Int) := by omega
      obtain rfl : j = es.length := by omega
      rw [List.take_length] at hmap
      have HMM := hide hmap
      clear hmap
      go_wp2
      go_ret
      exact ⟨_, rfl, unhide HMM, hbw, Nat.le_refl _⟩
end Go.Proofs.Ythmmplmppchfmaa

namespace Go.Proofs.Ythmmplmppchfmaa
open Go.RowKit Go.Sort

/-- One more is met. -/
def meetS (s : List U2 × List U2) (u : U2) : List U2 × List U2 := if u ∈ s.1 then s else (s.1 ++ [u], s.2 ++ [u])
def meetP (s : List U2 × List U2) (l : List U2) : List U2 × List U2 := l.foldl meetS s
theorem meetP_snoc (s : List U2 × List U2) (l : List U2) (j : Nat) (hj : j < l.length) : meetP s (l.take (j + 1)) = meetS (meetP s (l.take j)) l[j] := by
  rw [List.take_succ_eq_append_getElem hj, meetP, List.foldl_append]
  rfl
theorem meetS_len (s : List U2 × List U2) (u : U2) : (meetS s u).2.length ≤ s.2.length + 1 := by
  unfold meetS
  split
  · omega
  · simp
theorem meetP_len (l : List U2) : ∀ (s : List U2 × List U2), (meetP s l).2.length ≤ s.2.length + l.length := by
  induction l with
  | nil => intro s; exact Nat.le_refl _
  | cons u l ih =>
    intro s
    have h1 := ih (meetS s u)
    have h2 := meetS_len s u
    show (meetP (meetS s u) l).2.length ≤ _
    rw [List.length_cons]
    omega
theorem putM_new {l : List U2} {u : U2} (h : u ∉ l) : putM (setM l) u (.agg #[]) = setM (l ++ [u]) := by
  unfold putM
  have : (setM l).findIdx? (fun p => decide (u = p.1)) = none := by
    rw [List.findIdx?_eq_none_iff]
    intro p hp
    obtain ⟨x, hx, rfl⟩ := List.mem_map.1 hp
    rw [decide_eq_false_iff_not]
    intro e
    exact h (by rw [e]; exact hx)
  rw [this]
  simp [setM]

/-- What reach has in memory: the variable of the map, the map, the variable of the row that waits, the row. -/
structure ReachR (w : World) (B V5 V6 mb : Nat) (wv : Value) (s : List U2 × List U2) : Prop where
  v5 : w.heap[V5]? = some (.cells #[.map (some mb)] 55 (0, 0))
  v6 : w.heap[V6]? = some (.cells #[wv] 30 (0, 0))
  map : IsMap w mb (setM s.1)
  own : w.ownsRow B 28 2 wv s.2.length (s.2.map U2.cells).flatten
  b5 : B ≤ V5
  b6 : B ≤ V6
  bm : B ≤ mb
theorem ReachR.below {w w' : World} {B V5 V6 mb : Nat} {wv : Value} {s : List U2 × List U2} (h : ReachR w B V5 V6 mb wv s) (hb : Below w.heap.size w w') : ReachR w' B V5 V6 mb wv s := by
  have l5 := (Array.getElem?_eq_some_iff.1 h.v5).1
  have l6 := (Array.getElem?_eq_some_iff.1 h.v6).1
  refine ⟨(hb.block _ l5).trans h.v5, (hb.block _ l6).trans h.v6, h.map.below hb h.map.lt, ⟨h.own.1, h.own.2.imp id ?_⟩, h.b5, h.b6, h.bm⟩
  rintro ⟨g, cap, cur, h1, h2, h3, h4⟩
  exact ⟨g, cap, cur, h1, h2, (hb.block g (Array.getElem?_eq_some_iff.1 h3).1).trans h3, h4⟩
/-- The map is turned. -/
theorem ReachR.turn {w w' : World} {B V5 V6 mb : Nat} {wv : Value} {m m' wt : List U2} (h : ReachR w B V5 V6 mb wv (m, wt)) (T : TurnM w w' mb (setM m')) : ReachR w' B V5 V6 mb wv (m', wt) := by
  obtain ⟨es, clock, hm⟩ := h.map
  have hne : ∀ k c t f, w.heap[k]? = some (.cells c t f) → k ≠ mb := fun k c t f hk e => by
    subst e
    rw [hm.heap] at hk
    cases hk
  refine ⟨(T.other _ (hne _ _ _ _ h.v5)).trans h.v5, (T.other _ (hne _ _ _ _ h.v6)).trans h.v6, T.map, ⟨h.own.1, h.own.2.imp id ?_⟩, h.b5, h.b6, h.bm⟩
  rintro ⟨g, cap, cur, h1, h2, h3, h4⟩
  exact ⟨g, cap, cur, h1, h2, (T.other g (hne _ _ _ _ h3)).trans h3, h4⟩
theorem ReachR.keep6 {w w1 : World} {B V5 V6 mb : Nat} {wv : Value} {s : List U2 × List U2} (h : ReachR w B V5 V6 mb wv s) (hg : w.grownBy w1 wv.ownBlock) : w1.heap[V6]? = some (.cells #[wv] 30 (0, 0)) := by
  refine (hg.block V6 (Array.getElem?_eq_some_iff.1 h.v6).1 (fun e => ?_)).trans h.v6
  rcases h.own.2 with ⟨hv, _⟩ | ⟨g, cap, cur, hv, _, hgb, _⟩
  · rw [hv] at e
    cases e
  · rw [hv] at e
    have : V6 = g := by simpa [Value.ownBlock] using e
    have h6 := h.v6
    rw [this, hgb] at h6
    cases h6
theorem ownM_slice {w : World} {B : Nat} {T : TypeId} {z : Nat} {v : Value} {m : Nat} {xs : List Value} (h : w.ownsRow B T z v m xs) : ∃ ao c, v = .slice ao m c ∧ m ≤ c := by
  rcases h.2 with ⟨hv, h0⟩ | ⟨g, cap, cur, hv, _, _, hc, _⟩
  · subst h0
    exact ⟨none, 0, hv, Nat.le_refl _⟩
  · exact ⟨_, _, hv, hc⟩
/-- One more waits: laid behind the row, and the row stored. -/
theorem ReachR.push {w w1 : World} {B V5 V6 mb : Nat} {wv wv' : Value} {m wt wt' : List U2} (h : ReachR w B V5 V6 mb wv (m, wt)) (hg : w.grownBy w1 wv.ownBlock) (hown : w1.ownsRow B 28 2 wv' wt'.length (wt'.map U2.cells).flatten) :
    ReachR (w1.setCell ⟨V6, 0, none⟩ wv') B V5 V6 mb wv' (m, wt') := by
  obtain ⟨es, clock, hm⟩ := h.map
  have hob : ∀ k o, w.heap[k]? = some o → (∀ c f, o ≠ .cells c 28 f) → some k ≠ wv.ownBlock := fun k o hk ho e => by
    rcases h.own.2 with ⟨hv, _⟩ | ⟨g, cap, cur, hv, _, hgb, _⟩
    · rw [hv] at e
      cases e
    · rw [hv] at e
      have : k = g := by simpa [Value.ownBlock] using e
      subst this
      rw [hgb] at hk
      cases hk
      exact ho _ _ rfl
  have k5 : w1.heap[V5]? = some (.cells #[.map (some mb)] 55 (0, 0)) := (hg.block V5 (Array.getElem?_eq_some_iff.1 h.v5).1 (hob _ _ h.v5 (fun c f e => by cases e))).trans h.v5
  have k6 : w1.heap[V6]? = some (.cells #[wv] 30 (0, 0)) := (hg.block V6 (Array.getElem?_eq_some_iff.1 h.v6).1 (hob _ _ h.v6 (fun c f e => by cases e))).trans h.v6
  have km : w1.heap[mb]? = some (.map es clock) := (hg.block mb h.map.lt (hob _ _ hm.heap (fun c f e => by cases e))).trans hm.heap
  have hne5 : V5 ≠ V6 := fun e => by
    rw [e, k6] at k5
    cases k5
  have hnem : mb ≠ V6 := fun e => by
    rw [e, k6] at km
    cases km
  have hset : ∀ k, k ≠ V6 → (w1.setCell ⟨V6, 0, none⟩ wv').heap[k]? = w1.heap[k]? := fun k hk => Below.heap_setCell w1 ⟨V6, 0, none⟩ wv' k hk
  refine ⟨(hset _ hne5).trans k5, ?_, ⟨es, clock, (hset _ hnem).trans km, hm.rep, hm.rise, hm.old⟩, ⟨hown.1, hown.2.imp id ?_⟩, h.b5, h.b6, h.bm⟩
  · show (w1.setCell ⟨V6, 0, none⟩ wv').heap[V6]? = _
    simp only [World.setCell, Array.getElem?_modify, if_pos, k6]
    rfl
  · rintro ⟨g, cap, cur, h1, h2, h3, h4⟩
    refine ⟨g, cap, cur, h1, h2, (hset g (fun e => ?_)).trans h3, h4⟩
    rw [e, k6] at h3
    cases h3
theorem infoUidM : (Try.prog.info? 28).map (fun i => (i.zero, i.size, i.bytes)) = some (some (.agg #[.string ⟨#[]⟩, .string ⟨#[]⟩]), 2, 32) := by kernel_rfl
theorem cellsU_oneM (e : U2) : ∀ v ∈ e.cells, v.oneCell' = true := fun v hv => by
  simp only [U2.cells, List.mem_cons, List.not_mem_nil, or_false] at hv
  rcases hv with rfl | rfl <;> rfl
theorem newsU_rowM (w : World) (r : U2) (n : Nat) (hn : n = w.heap.size) : ∀ j u, r.cells[j]? = some u → (w.alloc (.cells #[.string r.t, .string r.i] 28)).cell? ((⟨n, 0, none⟩ : Addr).add j) = some u := by
  intro j u hj
  rw [Addr.add_lit, Nat.zero_add, World.cell?_alloc_at _ _ _ _ hn]
  simpa [U2.cells] using hj

set_option maxHeartbeats 4000000 in
set_option maxRecDepth 1000000 in
theorem meet_any (l : List U2) (ao : Option Addr) (c : Nat) (B V5 V6 mb : Nat) (wv : Value) (s : List U2 × List U2) (w : World) (hl : l.length ≤ 1048576) (hs : s.2.length ≤ 1048576) (hr : RowG w ao 2 (l.map U2.cells)) (hlow : ∀ ad, ao = some ad → l ≠ [] → ad.block < B) (h : ReachR w B V5 V6 mb wv s) (hB : B ≤ w.heap.size) :
    Calls Try.prog 38 #[.slice ao l.length c, .pointer (some ⟨V5, 0, none⟩), .pointer (some ⟨V6, 0, none⟩)] w fun x w' => x = .returned (.tuple #[]) ∧ Below B w w' ∧ ∃ wv', ReachR w' B V5 V6 mb wv' (meetP s l) := by
  obtain ⟨i0, hi, hz0, hz1, hz2⟩ := info_parts infoUidM
  have HR := hide hr
  have HL := hide hlow
  have H := hide h
  clear hr hlow h
  go_enter Try.func38, Try.ntmps38
  go_wp2
  go_loopw [8] (fun iv wr => ∃ (i : Nat) (v : Value), iv = .int .i64 i ∧ i ≤ l.length ∧ Below B w wr ∧ ReachR wr B V5 V6 mb v (meetP s (l.take i))) (fun iv _ => l.length - (intOf iv).toNat)
  case atStart => exact ⟨0, wv, by go_num, Nat.zero_le _, Below.refl _ _, unhide H⟩
  case round =>
    clear H
    obtain ⟨j, v, rfl, hj, hbw, hR⟩ := hrel
    have k0 : (0 : Int) ≤ (j : Int) := by omega
    have hBr : B ≤ wr.heap.size := Nat.le_trans hB hbw.size
    by_cases hlt : j < l.length
    · have i1 : (j : Int) < (l.length : Int) := by omega
      have HS := hide (meetP_snoc s l j hlt)
      have hml := meetP_len (l.take j) s
      rw [List.length_take] at hml
      obtain ⟨b, off, rfl, hb, hcx⟩ := rowG_at (unhide HR) (Below.refl _ _) hlt
      have hbB : b < B := unhide HL _ rfl (fun e => by rw [e] at hlt; exact absurd hlt (Nat.not_lt_zero _))
      have A : AtE2 wr b (off + j * 2) l[j] := (AtE2.of hcx).below hbw hbB
      obtain ⟨x, hx⟩ : ∃ x, x = l[j] := ⟨_, rfl⟩
      rw [← hx] at A HS
      clear hx hcx
      obtain ⟨st, hst⟩ : ∃ st, st = meetP s (l.take j) := ⟨_, rfl⟩
      rw [← hst] at hR HS hml
      clear hst
      obtain ⟨m, wt⟩ := st
      have b2 := belowA wr (.cells #[.string x.t, .string x.i] 28)
      have z2 := sizeA wr (.cells #[.string x.t, .string x.i] 28)
      have A2 : AtE2 (wr.alloc (.cells #[.string x.t, .string x.i] 28)) wr.heap.size 0 x := ⟨by simp, by simp⟩
      have hU2 : wr.heap.size < (wr.alloc (.cells #[.string x.t, .string x.i] 28)).heap.size := by omega
      have hR2 := hR.below b2
      have HA := has_any m mb x _ hR2.map
      unfold U2.val at HA
      have c5 : (wr.alloc (.cells #[.string x.t, .string x.i] 28)).cell? ⟨V5, 0, none⟩ = some (.map (some mb)) := by rw [Lib.cell_of_heap hR2.v5]; rfl
      have HR2 := hide hR2
      clear hR2 hR z2
      obtain ⟨a0, a1⟩ := A
      have A2c := A2
      obtain ⟨d0, d1⟩ := A2c
      simp only [Nat.zero_add] at d1
      go_wp2_with fail
      clear a0 a1 d0 d1 c5
      generalize wr.alloc _ = w2 at *
      refine HA.mono ?_
      clear HA
      rintro _ w3 ⟨rfl, b3⟩
      have hR3 := (unhide HR2).below b3
      have hb2 := hbw.trans (b2.mono hBr)
      have hb3 := hb2.trans (b3.mono (Nat.le_trans hBr b2.size))
      have A3 := A2.below b3 hU2
      have hU3 : wr.heap.size < w3.heap.size := Nat.lt_of_lt_of_le hU2 b3.size
      clear A2 HR2
      by_cases hmem : x ∈ m
      · rw [decide_eq_true hmem]
        have HS2 := hide (show meetP s (l.take (j + 1)) = (m, wt) by rw [unhide HS]; exact if_pos hmem)
        have HR3 := hide hR3
        clear hR3 A3 HS hmem
        go_wp2
        go_roundw
        case rel => exact ⟨j + 1, v, by go_num, by omega, hb3, by rw [unhide HS2]; exact unhide HR3⟩
        case measure =>
          simp only [intOf]
          omega
      · rw [decide_eq_false hmem]
        have HS2 := hide (show meetP s (l.take (j + 1)) = (m ++ [x], wt ++ [x]) by rw [unhide HS]; exact if_neg hmem)
        obtain ⟨w4, hrun, T⟩ := run_putU (t := 55) (e := 74) Try.underlying55 hR3.map x (.agg #[])
        rw [putM_new hmem] at T
        have hR4 := hR3.turn T
        have hneU : wr.heap.size ≠ mb := fun e => by
          obtain ⟨es, clock, hm⟩ := hR3.map
          have := A3.c0
          rw [e] at this
          unfold World.cell? at this
          rw [hm.heap] at this
          cases this
        have A4 : AtE2 w4 wr.heap.size 0 x := by
          have hk := T.other _ hneU
          exact ⟨by have := A3.c0; unfold World.cell? at this ⊢; simp only [hk]; exact this, by have := A3.c1; unfold World.cell? at this ⊢; simp only [hk]; exact this⟩
        have hb4 := hb3.trans (T.below B hR3.bm)
        have hB4 : B ≤ w4.heap.size := Nat.le_trans hB hb4.size
        have c5 : w3.cell? ⟨V5, 0, none⟩ = some (.map (some mb)) := by rw [Lib.cell_of_heap hR3.v5]; rfl
        have c6 : w4.cell? ⟨V6, 0, none⟩ = some v := by rw [Lib.cell_of_heap hR4.v6]; rfl
        have HR4 := hide hR4
        unfold U2.val at hrun
        obtain ⟨a0, a1⟩ := A3
        obtain ⟨d0, d1⟩ := A4
        simp only [Nat.zero_add] at a1 d1
        clear hR3 hR4 T HS hneU
        have Hown := hide (unhide HR4).own
        go_wp2_with (at_builtin; refine wpList_append_own _ rfl _ _ 30 rfl B 28 i0 _ 2 32 Try.underlying30 hi hz0 hz1 hz2 rfl (by decide) _ _ _ rfl ((unhide Hown).alloc _) ⟨w4.heap.size, 0, none⟩ 1 1 x.cells rfl rfl ?dA ?eA ?fA ?gA ?hA ?_)
        case dA => exact newsU_rowM w4 x _ rfl
        case eA => exact cellsU_oneM x
        case fA => unfold maxLen; omega
        case gA => omega
        case hA => simp; omega
        intro v5 w5 hown5 hg5 _
        have hR4a := (unhide HR4).below (belowA w4 (.cells #[.string x.t, .string x.i] 28))
        have h6 := hR4a.keep6 hg5
        have hown5 : w5.ownsRow B 28 2 v5 (wt ++ [x]).length ((wt ++ [x]).map U2.cells).flatten := by simpa using hown5
        obtain ⟨vo5, vc5, hv5, _⟩ := ownM_slice hown5
        rw [show (wt ++ [x]).length = wt.length + 1 by simp] at hv5
        subst hv5
        have HR5 := hide (hR4a.push hg5 hown5)
        have hb4a := hb4.alloc hB4 (.cells #[.string x.t, .string x.i] 28)
        have hb5 := hb4a.grown hg5 (Nat.le_trans hB4 (by rw [sizeA]; omega)) (fun k hk => ((unhide Hown).lt k hk).1)
        have hb6 := hb5.setCell (p := ⟨V6, 0, none⟩) (unhide HR4).b6 (.slice vo5 (wt.length + 1) vc5)
        have q6 : w5.cell? ⟨V6, 0, none⟩ = some v := by rw [Lib.cell_of_heap h6]; rfl
        have q7 : w5.frozen? ⟨V6, 0, none⟩ = false := Lib.frozen_of_heap h6 0
        clear a0 a1 d0 d1 c5 c6 hown5 hg5 hR4a h6 hb4a hrun
        go_wp2
        go_roundw
        case rel => exact ⟨j + 1, _, by go_num, by omega, hb6, by rw [unhide HS2]; exact unhide HR5⟩
        case measure =>
          simp only [intOf]
          omega
    · have i1 : ¬ (j : Int) < (l.length : Int) := by omega
      obtain rfl : j = l.length := by omega
      rw [List.take_length] at hR
      have HRR := hide hR
      clear hR
      go_wp2
      refine bodyPost_end (v := .tuple #[]) (by simp [results, Try.results38, go_sem]) rfl ⟨rfl, hbw, v, unhide HRR⟩
end Go.Proofs.Ythmmplmppchfmaa
