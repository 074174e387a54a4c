/-
  Plain: who is met from where, by steps (no program in it).
  above.steps.reach: what it returns.
  above.In: what it returns.
-/
import Derived.Test.YthmmplmppchfmaaMpAD
import Derived.Test.YthmmplmppchfmaaVeK
import Derived.Deep.Cut
namespace Go.Proofs.Ythmmplmppchfmaa
open Go.RowKit Go.Sort

theorem mem_meetS (s : List U2 × List U2) (x u : U2) : (u ∈ (meetS s x).1 ↔ u ∈ s.1 ∨ u = x) ∧ (u ∈ (meetS s x).2 ↔ u ∈ s.2 ∨ (u = x ∧ u ∉ s.1)) := by
  unfold meetS
  by_cases h : x ∈ s.1
  · rw [if_pos h]
    refine ⟨⟨.inl, fun h2 => h2.elim id fun e => by rw [e]; exact h⟩, ⟨.inl, fun h2 => h2.elim id fun ⟨e, hn⟩ => absurd (by rw [e]; exact h) hn⟩⟩
  · rw [if_neg h]
    simp only [List.mem_append, List.mem_singleton]
    exact ⟨trivial, ⟨fun h2 => h2.imp id fun e => ⟨e, by rw [e]; exact h⟩, fun h2 => h2.imp id fun ⟨e, _⟩ => e⟩⟩
theorem mem_meetP (l : List U2) : ∀ (s : List U2 × List U2) (u : U2), (u ∈ (meetP s l).1 ↔ u ∈ s.1 ∨ u ∈ l) ∧ (u ∈ (meetP s l).2 ↔ u ∈ s.2 ∨ (u ∈ l ∧ u ∉ s.1)) := by
  induction l with
  | nil => intro s u; exact ⟨by simp [meetP], by simp [meetP]⟩
  | cons x l ih =>
    intro s u
    obtain ⟨h1, h2⟩ := ih (meetS s x) u
    obtain ⟨g1, g2⟩ := mem_meetS s x u
    have e : meetP s (x :: l) = meetP (meetS s x) l := rfl
    rw [e, h1, h2, g1, g2, List.mem_cons]
    constructor
    · constructor
      · rintro ((h | h) | h)
        · exact .inl h
        · exact .inr (.inl h)
        · exact .inr (.inr h)
      · rintro (h | h | h)
        · exact .inl (.inl h)
        · exact .inl (.inr h)
        · exact .inr h
    · constructor
      · rintro ((h | ⟨h, hn⟩) | ⟨h, hn⟩)
        · exact .inl h
        · exact .inr ⟨.inl h, hn⟩
        · exact .inr ⟨.inr h, fun hs => hn (.inl hs)⟩
      · rintro (h | ⟨h | h, hn⟩)
        · exact .inl (.inl h)
        · exact .inl (.inr ⟨h, hn⟩)
        · by_cases hx : u = x
          · exact .inl (.inr ⟨hx, hn⟩)
          · exact .inr ⟨h, fun hs => hs.elim hn hx⟩
theorem nodup_meetP (l : List U2) : ∀ (s : List U2 × List U2), s.1.Nodup → (meetP s l).1.Nodup := by
  induction l with
  | nil => intro s h; exact h
  | cons x l ih =>
    intro s h
    refine ih (meetS s x) ?_
    unfold meetS
    split
    · exact h
    · rename_i hx
      rw [List.nodup_append]
      refine ⟨h, by simp, fun a ha b hb => ?_⟩
      rw [List.mem_singleton.1 hb]
      exact fun e => hx (by rw [← e]; exact ha)
theorem nodup_meetP2 (l : List U2) : ∀ (s : List U2 × List U2), s.2.Nodup → (∀ u ∈ s.2, u ∈ s.1) → (meetP s l).2.Nodup := by
  induction l with
  | nil => intro s h _; exact h
  | cons x l ih =>
    intro s h hs
    have e : meetP s (x :: l) = meetP (meetS s x) l := rfl
    rw [e]
    by_cases hx : x ∈ s.1
    · rw [show meetS s x = s from if_pos hx]
      exact ih s h hs
    · have e2 : meetS s x = (s.1 ++ [x], s.2 ++ [x]) := if_neg hx
      rw [e2]
      refine ih _ ?_ ?_
      · show (s.2 ++ [x]).Nodup
        rw [List.nodup_append]
        refine ⟨h, by simp, fun a ha b hb => ?_⟩
        rw [List.mem_singleton.1 hb]
        exact fun e => hx (by rw [← e]; exact hs a ha)
      · intro u hu
        show u ∈ s.1 ++ [x]
        rcases List.mem_append.1 hu with h1 | h1
        · exact List.mem_append_left _ (hs u h1)
        · exact List.mem_append_right _ h1
theorem len_meetP (l : List U2) : ∀ (s : List U2 × List U2), (meetP s l).1.length + s.2.length = s.1.length + (meetP s l).2.length := by
  induction l with
  | nil => intro s; show s.1.length + s.2.length = _; rfl
  | cons x l ih =>
    intro s
    have h := ih (meetS s x)
    have e : meetP s (x :: l) = meetP (meetS s x) l := rfl
    rw [e]
    unfold meetS at h ⊢
    split at h
    · rename_i hx
      rw [if_pos hx]
      exact h
    · rename_i hx
      rw [if_neg hx]
      simp only [List.length_append, List.length_cons, List.length_nil] at h
      omega
theorem nodup_le {α : Type} [DecidableEq α] : ∀ (l m : List α), l.Nodup → (∀ x ∈ l, x ∈ m) → l.length ≤ m.length
  | [], _, _, _ => Nat.zero_le _
  | a :: l, m, hn, hs => by
    have hn' := List.nodup_cons.1 hn
    have ha : a ∈ m := hs a List.mem_cons_self
    have := nodup_le l (m.erase a) hn'.2 fun x hx => (List.mem_erase_of_ne (fun e => hn'.1 (by rw [← e]; exact hx))).2 (hs x (List.mem_cons_of_mem _ hx))
    rw [List.length_erase_of_mem ha] at this
    have hpos : 0 < m.length := List.length_pos_of_mem ha
    rw [List.length_cons]
    omega

/-- Some steps lead from one to another, or none. -/
inductive Way (S : U2 → List U2) : U2 → U2 → Prop
  | here (u : U2) : Way S u u
  | step {u v x : U2} (h : Way S u v) (hx : x ∈ S v) : Way S u x
/-- What stands while reach goes on. -/
structure ReachI (S : U2 → List U2) (from_ : List U2) (s : List U2 × List U2) : Prop where
  nd : s.1.Nodup
  ndw : s.2.Nodup
  sub : ∀ u ∈ s.2, u ∈ s.1
  frm : ∀ u ∈ from_, u ∈ s.1
  rch : ∀ u ∈ s.1, ∃ f ∈ from_, Way S f u
  cl : ∀ u ∈ s.1, u ∈ s.2 ∨ ∀ v ∈ S u, v ∈ s.1
theorem reachI_start (S : U2 → List U2) (from_ : List U2) : ReachI S from_ (meetP ([], []) from_) :=
  ⟨nodup_meetP _ _ List.nodup_nil, nodup_meetP2 _ _ List.nodup_nil (fun _ h => by cases h), fun u hu => by
    have h := ((mem_meetP from_ ([], []) u).2).1 hu
    exact ((mem_meetP from_ ([], []) u).1).2 (h.imp (fun h => by cases h) fun h => h.1), fun u hu => ((mem_meetP from_ ([], []) u).1).2 (.inr hu), fun u hu => by
    rcases ((mem_meetP from_ ([], []) u).1).1 hu with h | h
    · cases h
    · exact ⟨u, h, .here u⟩, fun u hu => by
    rcases ((mem_meetP from_ ([], []) u).1).1 hu with h | h
    · cases h
    · exact .inl (((mem_meetP from_ ([], []) u).2).2 (.inr ⟨h, List.not_mem_nil⟩))⟩
theorem reachI_round {S : U2 → List U2} {from_ : List U2} {m wt : List U2} {u : U2} (h : ReachI S from_ (m, wt ++ [u])) : ReachI S from_ (meetP (m, wt) (S u)) := by
  have hu : u ∈ m := h.sub u (by simp)
  refine ⟨nodup_meetP _ _ h.nd, nodup_meetP2 _ _ (List.nodup_append.1 h.ndw).1 (fun x hx => h.sub x (List.mem_append_left _ hx)), fun x hx => ?_, fun x hx => ((mem_meetP (S u) (m, wt) x).1).2 (.inl (h.frm x hx)), fun x hx => ?_, fun x hx => ?_⟩
  · rcases ((mem_meetP (S u) (m, wt) x).2).1 hx with h1 | ⟨h1, _⟩
    · exact ((mem_meetP (S u) (m, wt) x).1).2 (.inl (h.sub x (List.mem_append_left _ h1)))
    · exact ((mem_meetP (S u) (m, wt) x).1).2 (.inr h1)
  · rcases ((mem_meetP (S u) (m, wt) x).1).1 hx with h1 | h1
    · exact h.rch x h1
    · obtain ⟨f, hf, hw⟩ := h.rch u hu
      exact ⟨f, hf, .step hw h1⟩
  · rcases ((mem_meetP (S u) (m, wt) x).1).1 hx with h1 | h1
    · rcases h.cl x h1 with h2 | h2
      · rcases List.mem_append.1 h2 with h3 | h3
        · exact .inl (((mem_meetP (S u) (m, wt) x).2).2 (.inl h3))
        · have e : x = u := by simpa using h3
          subst e
          exact .inr fun v hv => ((mem_meetP (S x) (m, wt) v).1).2 (.inr hv)
      · exact .inr fun v hv => ((mem_meetP (S u) (m, wt) v).1).2 (.inl (h2 v hv))
    · by_cases hm : x ∈ m
      · rcases h.cl x hm with h2 | h2
        · rcases List.mem_append.1 h2 with h3 | h3
          · exact .inl (((mem_meetP (S u) (m, wt) x).2).2 (.inl h3))
          · have e : x = u := by simpa using h3
            subst e
            exact .inr fun v hv => ((mem_meetP (S x) (m, wt) v).1).2 (.inr hv)
        · exact .inr fun v hv => ((mem_meetP (S u) (m, wt) v).1).2 (.inl (h2 v hv))
      · exact .inl (((mem_meetP (S u) (m, wt) x).2).2 (.inr ⟨h1, hm⟩))
/-- Nothing waits: all that steps lead to is met, and nothing else. -/
theorem reachI_end {S : U2 → List U2} {from_ m : List U2} (h : ReachI S from_ (m, [])) (u : U2) : u ∈ m ↔ ∃ f ∈ from_, Way S f u := by
  refine ⟨h.rch u, ?_⟩
  rintro ⟨f, hf, hw⟩
  induction hw with
  | here => exact h.frm f hf
  | step hw hx ih =>
    rcases h.cl _ ih with h1 | h1
    · cases h1
    · exact h1 _ hx
end Go.Proofs.Ythmmplmppchfmaa

namespace Go.Proofs.Ythmmplmppchfmaa
open Go.RowKit Go.Sort

/-- Steps in memory: a map whose lists lie below. -/
def StepsR (w : World) (B : Nat) (M : List (U2 × Value)) (S : U2 → List U2) : Prop :=
  ∀ u, ∃ ao c, gotM false (.slice none 0 0) (lookM M u) = .slice ao (S u).length c ∧ RowG w ao 2 ((S u).map U2.cells) ∧ (∀ ad, ao = some ad → S u ≠ [] → ad.block < B) ∧ (S u).length ≤ 1000
theorem zeroUids (W : World) : (zeroValue 30).run Try.prog W = .ok (.slice none 0 0) W := by kernel_rfl
theorem sizeUidsM (W : World) : (sizeOf (Try.prog.elem 30)).run Try.prog W = .ok 2 W := by kernel_rfl
theorem run_cutUM (ao : Option Addr) (n cap k : Nat) (hk : k ≤ cap) (W : World) : (Instr.slice 30 (.slice ao n cap) none (some (.int .i64 k)) none).run Try.prog W = .ok (.slice ao k cap) W := by
  rw [run_slice_h (P := Try.prog) (w := W) 30 ao n cap (by kernel_rfl) .i64 k (by omega) (by omega)]
  rw [sizeUidsM]
  have e0 : ∀ a : Addr, a.add 0 = a := fun a => by unfold Addr.add; simp
  cases ao <;> simp [sliced, Result.andThen, e0]
/-- How many are met, how many wait, as memory tells it. -/
def metLen (w : World) (b : Nat) : Nat := match w.heap[b]? with
  | some (.map es _) => es.size
  | _ => 0
def waitLen (w : World) (b : Nat) : Nat := match w.cell? ⟨b, 0, none⟩ with
  | some (.slice _ n _) => n
  | _ => 0
theorem ReachR.met {w : World} {B V5 V6 mb : Nat} {wv : Value} {s : List U2 × List U2} (h : ReachR w B V5 V6 mb wv s) : metLen w mb = s.1.length := by
  obtain ⟨es, clock, hm⟩ := h.map
  unfold metLen
  rw [hm.heap]
  have := congrArg List.length hm.rep
  simpa [setM] using this
theorem ReachR.wait {w : World} {B V5 V6 mb : Nat} {wv : Value} {s : List U2 × List U2} (h : ReachR w B V5 V6 mb wv s) : waitLen w V6 = s.2.length := by
  obtain ⟨ao, c, e, _⟩ := ownM_slice h.own
  unfold waitLen
  rw [Lib.cell_of_heap h.v6, e]
  rfl
theorem flatU_len : ∀ l : List U2, ((l.map U2.cells).flatten).length = l.length * 2
  | [] => rfl
  | a :: l => by
    rw [List.map_cons, List.flatten_cons, List.length_append, flatU_len l, List.length_cons]
    show 2 + _ = _
    omega
/-- The last one waits no more. -/
theorem ReachR.pop {w : World} {B V5 V6 mb : Nat} {ao : Option Addr} {c : Nat} {m wt : List U2} {u : U2} (h : ReachR w B V5 V6 mb (.slice ao (wt.length + 1) c) (m, wt ++ [u])) : ReachR (w.setCell ⟨V6, 0, none⟩ (.slice ao wt.length c)) B V5 V6 mb (.slice ao wt.length c) (m, wt) := by
  obtain ⟨es, clock, hm⟩ := h.map
  have hne5 : V5 ≠ V6 := fun e => by
    have h5 := h.v5
    rw [e, h.v6] at h5
    cases h5
  have hnem : mb ≠ V6 := fun e => by
    have h5 := hm.heap
    rw [e, h.v6] at h5
    cases h5
  have hset : ∀ k, k ≠ V6 → (w.setCell ⟨V6, 0, none⟩ (.slice ao wt.length c)).heap[k]? = w.heap[k]? := fun k hk => Below.heap_setCell w ⟨V6, 0, none⟩ _ k hk
  refine ⟨(hset _ hne5).trans h.v5, ?_, ⟨es, clock, (hset _ hnem).trans hm.heap, hm.rep, hm.rise, hm.old⟩, ⟨flatU_len wt, ?_⟩, h.b5, h.b6, h.bm⟩
  · show (w.setCell ⟨V6, 0, none⟩ (.slice ao wt.length c)).heap[V6]? = _
    simp only [World.setCell, Array.getElem?_modify, if_pos, h.v6]
    rfl
  · rcases h.own.2 with ⟨hv, h0⟩ | ⟨g, cap, cur, hv, h2, h3, h4, h5, h6, h7⟩
    · simp at h0
    · injection hv with e1 e2 e3
      subst e1 e3
      have hl : (wt ++ [u]).length = wt.length + 1 := by simp
      refine .inr ⟨g, _, cur, rfl, h2, (hset g (fun e => ?_)).trans h3, ?_, h5, h6, ?_⟩
      · rw [e, h.v6] at h3
        cases h3
      · have h4' : (wt ++ [u]).length ≤ _ := h4
        rw [hl] at h4'
        show wt.length ≤ _
        omega
      · have h7' : cur.toList.take ((wt ++ [u]).length * 2) = ((wt ++ [u]).map U2.cells).flatten := h7
        have h8 := congrArg (List.take (wt.length * 2)) h7'
        rw [List.take_take, Nat.min_eq_left (by rw [hl]; omega), List.map_append, List.flatten_append, List.take_append_of_le_length (by rw [flatU_len]; exact Nat.le_refl _)] at h8
        show cur.toList.take (wt.length * 2) = _
        rw [h8, List.take_of_length_le (by rw [flatU_len]; exact Nat.le_refl _)]

theorem list_last {α : Type} (l : List α) (h : l ≠ []) : ∃ l' u, l = l' ++ [u] ∧ l'.length + 1 = l.length := ⟨l.dropLast, l.getLast h, (List.dropLast_concat_getLast h).symm, by
  rw [List.length_dropLast]
  have := List.length_pos_iff.2 h
  omega⟩
theorem rowU_own {w : World} {B : Nat} {v : Value} {l : List U2} (h : w.ownsRow B 28 2 v l.length (l.map U2.cells).flatten) {j : Nat} (hj : j < l.length) : ∃ g c, v = .slice (some ⟨g, 0, none⟩) l.length c ∧ g < w.heap.size ∧ l.length ≤ c ∧ AtE2 w g (j * 2) l[j] := by
  rcases h.2 with ⟨_, h0⟩ | ⟨g, cap, cur, hv, _, h3, h4, h5, h6, h7⟩
  · omega
  · refine ⟨g, cap, hv, (Array.getElem?_eq_some_iff.1 h3).1, h4, ?_⟩
    have hc : ∀ k u, ((l.map U2.cells).flatten)[k]? = some u → w.cell? ⟨g, k, none⟩ = some u := fun k u hk => by
      have := h.cells (g := g) (by rw [hv]; rfl) k u hk
      rwa [Addr.add_lit, Nat.zero_add] at this
    have hf : ∀ (l : List U2) (j : Nat) (hj : j < l.length), ((l.map U2.cells).flatten)[j * 2]? = some (.string l[j].t) ∧ ((l.map U2.cells).flatten)[j * 2 + 1]? = some (.string l[j].i) := fun l => by
      induction l with
      | nil => intro j hj; exact absurd hj (Nat.not_lt_zero _)
      | cons a l ih =>
        intro j hj
        cases j with
        | zero => exact ⟨rfl, rfl⟩
        | succ j =>
          obtain ⟨g1, g2⟩ := ih j (by simpa using hj)
          rw [List.map_cons, List.flatten_cons, show (j + 1) * 2 = j * 2 + 2 by omega]
          exact ⟨by rw [List.getElem?_append_right (by show 2 ≤ _; omega)]; exact g1, by rw [List.getElem?_append_right (by show 2 ≤ _; omega)]; exact g2⟩
    exact ⟨hc _ _ (hf l j hj).1, hc _ _ (hf l j hj).2⟩

set_option maxHeartbeats 8000000 in
set_option maxRecDepth 1000000 in
theorem reach_any (S : U2 → List U2) (M : List (U2 × Value)) (sb : Nat) (fr N : List U2) (ao : Option Addr) (c : Nat) (w : World) (hS : StepsR w w.heap.size M S) (hM : IsMap w sb M) (hr : RowG w ao 2 (fr.map U2.cells)) (hl : fr.length ≤ 1000) (hlow : ∀ ad, ao = some ad → fr ≠ [] → ad.block < w.heap.size) (hN1 : ∀ u ∈ fr, u ∈ N) (hN2 : ∀ u, ∀ v ∈ S u, v ∈ N) (hN : N.length ≤ 100000) :
    Calls Try.prog 23 #[.map (some sb), .slice ao fr.length c] w fun x w' => Below w.heap.size w w' ∧ ∃ mb m, x = .returned (.map (some mb)) ∧ IsMap w' mb (setM m) ∧ w.heap.size ≤ mb ∧ ReachI S fr (m, []) := by
  obtain ⟨B, hB⟩ : ∃ B, B = w.heap.size := ⟨_, rfl⟩
  have hmk : ∀ W : World, (Instr.makeMap 55 none).run Try.prog W = .ok (.map (some W.heap.size)) (W.alloc (.map #[] 0)) := fun _ => rfl
  have z1 := sizeA w (.map #[] 0)
  have z2 := sizeA (w.alloc (.map #[] 0)) (.cells #[.map (some w.heap.size)] 55)
  have z3 := sizeA ((w.alloc (.map #[] 0)).alloc (.cells #[.map (some w.heap.size)] 55)) (.cells #[.slice none 0 0] 30)
  have hb3 : Below w.heap.size w (((w.alloc (.map #[] 0)).alloc (.cells #[.map (some w.heap.size)] 55)).alloc (.cells #[.slice none 0 0] 30)) :=
    (((Below.refl _ w).alloc (Nat.le_refl _) _).alloc (by rw [z1]; omega) _).alloc (by rw [z2, z1]; omega) _
  have hR0 : ReachR (((w.alloc (.map #[] 0)).alloc (.cells #[.map (some w.heap.size)] 55)).alloc (.cells #[.slice none 0 0] 30)) w.heap.size (w.heap.size + 1) (w.heap.size + 1 + 1) w.heap.size (.slice none 0 0) ([], []) := by
    have hn := isMap_new w
    refine ⟨?_, ?_, ((hn.below (belowA _ _) (by rw [z1]; omega)).below (belowA _ _) (by rw [z2, z1]; omega)), World.ownsRow_nil _ _ _ _, by omega, by omega, Nat.le_refl _⟩
    · rw [Below.heap_alloc _ _ _ (by rw [z2, z1]; omega)]
      have := alloc_heap (w.alloc (.map #[] 0)) (.cells #[.map (some w.heap.size)] 55)
      rwa [z1] at this
    · have := alloc_heap ((w.alloc (.map #[] 0)).alloc (.cells #[.map (some w.heap.size)] 55)) (.cells #[.slice none 0 0] 30)
      rwa [z2, z1] at this
  have ME := meet_any fr ao c w.heap.size (w.heap.size + 1) (w.heap.size + 1 + 1) w.heap.size (.slice none 0 0) ([], []) _ (by omega) (Nat.zero_le _) (hr.below hb3) hlow hR0 hb3.size
  have HS := hide hS
  have HM := hide hM
  have HN := hide (And.intro hN1 hN2)
  clear hR0 z1 z2 z3 hS hM hr hlow hN1 hN2
  go_enter Try.func23, Try.ntmps23
  go_wp2_with fail
  clear hmk
  generalize ((w.alloc _).alloc _).alloc _ = w3 at *
  have hV6 : w.heap.size ≤ w.heap.size + 1 + 1 := by omega
  generalize w.heap.size + 1 + 1 = V6 at *
  generalize w.heap.size + 1 = V5 at *
  refine ME.mono ?_
  clear ME
  rintro _ w4 ⟨rfl, b4, wv, hR⟩
  have b04 := hb3.trans b4
  have HR := hide hR
  have HI := hide (reachI_start S fr)
  clear hR
  go_wp2_with fail
  go_loopw [8] (fun _ wr => ∃ (v : Value) (s : List U2 × List U2), Below w.heap.size w wr ∧ ReachR wr w.heap.size V5 V6 w.heap.size v s ∧ ReachI S fr s) (fun _ wr => 2 * (N.length - metLen wr w.heap.size) + waitLen wr V6)
  case atStart => exact ⟨wv, _, b04, unhide HR, unhide HI⟩
  case round =>
    clear HR HI
    obtain ⟨v, ⟨m, wt⟩, hbw, hR, hI⟩ := hrel
    have HMet := hide hR.met
    have HWait := hide hR.wait
    have hmN : m.length ≤ N.length := nodup_le m N hI.nd fun u hu => by
      obtain ⟨f, hf, hw⟩ := hI.rch u hu
      cases hw with
      | here => exact (unhide HN).1 _ hf
      | step _ hx => exact (unhide HN).2 _ _ hx
    have hwN : wt.length ≤ 1000000 := by
      have := nodup_le wt m hI.ndw hI.sub
      omega
    by_cases hwt : wt = []
    · subst hwt
      obtain ⟨vo, vc, hv, _⟩ := ownM_slice hR.own
      have hv : v = .slice vo 0 vc := hv
      subst hv
      have c6 : wr.cell? ⟨V6, 0, none⟩ = some (.slice vo 0 vc) := by rw [Lib.cell_of_heap hR.v6]; rfl
      have c5 : wr.cell? ⟨V5, 0, none⟩ = some (.map (some w.heap.size)) := by rw [Lib.cell_of_heap hR.v5]; rfl
      have HMm := hide hR.map
      have HI2 := hide hI
      clear hR hI
      go_wp2
      go_ret
      exact ⟨hbw, w.heap.size, rfl, m, unhide HMm, Nat.le_refl _, unhide HI2⟩
    · obtain ⟨wt', u, e, hwl⟩ := list_last wt hwt
      subst e
      have hwl2 : wt'.length ≤ 1000000 := by omega
      have HI2 := hide hI
      have hj : wt'.length < (wt' ++ [u]).length := by simp
      obtain ⟨g, vc, hv0, hg, hvc, A⟩ := rowU_own hR.own (j := wt'.length) hj
      have hgt : (wt' ++ [u])[wt'.length] = u := by simp
      rw [hgt] at A
      have hv : v = .slice (some ⟨g, 0, none⟩) (wt'.length + 1) vc := by
        rw [hv0]
        simp
      clear hv0
      subst hv
      have hlen : (wt' ++ [u]).length = wt'.length + 1 := by simp
      rw [show ((m, wt' ++ [u]) : List U2 × List U2).2.length = wt'.length + 1 from hlen] at hvc
      have c6 : wr.cell? ⟨V6, 0, none⟩ = some (.slice (some ⟨g, 0, none⟩) (wt'.length + 1) vc) := by rw [Lib.cell_of_heap hR.v6]; rfl
      have b2 := belowA wr (.cells #[.string u.t, .string u.i] 28)
      have hR2 := hR.below b2
      have q6 : (wr.alloc (.cells #[.string u.t, .string u.i] 28)).cell? ⟨V6, 0, none⟩ = some (.slice (some ⟨g, 0, none⟩) (wt'.length + 1) vc) := by rw [Lib.cell_of_heap hR2.v6]; rfl
      have q7 : (wr.alloc (.cells #[.string u.t, .string u.i] 28)).frozen? ⟨V6, 0, none⟩ = false := Lib.frozen_of_heap hR2.v6 0
      have hcut := fun W => run_cutUM (some ⟨g, 0, none⟩) (wt'.length + 1) vc wt'.length (by omega) W
      have hR3 := hR2.pop
      have hbw2 : Below w.heap.size w (wr.alloc (.cells #[.string u.t, .string u.i] 28)) := hbw.alloc hbw.size _
      have hbw3 := hbw2.setCell (p := ⟨V6, 0, none⟩) hV6 (.slice (some ⟨g, 0, none⟩) wt'.length vc)
      have ej : ((wt'.length + 1 : Nat) : Int) - 1 = (wt'.length : Int) := by omega
      have ew : IntKind.i64.wrap (wt'.length : Int) = (wt'.length : Int) := by rw [IntKind.wrap_i64]; omega
      have k0 : (0 : Int) ≤ (wt'.length : Int) := by omega
      have k1 : (wt'.length : Int) < ((wt'.length + 1 : Nat) : Int) := by omega
      have k2 : (0 : Int) < ((wt'.length + 1 : Nat) : Int) := by omega
      obtain ⟨a0, a1⟩ := A
      have AU : AtE2 ((wr.alloc (.cells #[.string u.t, .string u.i] 28)).setCell ⟨V6, 0, none⟩ (.slice (some ⟨g, 0, none⟩) wt'.length vc)) wr.heap.size 0 u := by
        have hne : wr.heap.size ≠ V6 := fun e => by
          have := (Array.getElem?_eq_some_iff.1 hR.v6).1
          omega
        have hh := Below.heap_setCell (wr.alloc (.cells #[.string u.t, .string u.i] 28)) ⟨V6, 0, none⟩ (.slice (some ⟨g, 0, none⟩) wt'.length vc) wr.heap.size hne
        have h0 : AtE2 (wr.alloc (.cells #[.string u.t, .string u.i] 28)) wr.heap.size 0 u := ⟨by simp, by simp⟩
        exact ⟨by have := h0.c0; unfold World.cell? at this ⊢; simp only [hh]; exact this, by have := h0.c1; unfold World.cell? at this ⊢; simp only [hh]; exact this⟩
      obtain ⟨so, sc, hgot, hrow, hlowS, hSl⟩ := unhide HS u
      have L := run_lookU (t := 57) (e := 30) Try.underlying57 (.slice none 0 0) zeroUids ((unhide HM).below hbw3 (unhide HM).lt) u false
      rw [hgot] at L
      unfold U2.val at L
      have ME := meet_any (S u) so sc w.heap.size V5 V6 w.heap.size (.slice (some ⟨g, 0, none⟩) wt'.length vc) (m, wt') _ (by omega) (by show wt'.length ≤ _; omega) (hrow.below hbw3) hlowS hR3 hbw3.size
      obtain ⟨d0, d1⟩ := AU
      simp only [Nat.zero_add] at d1
      have HWL := hide hwl
      clear hR hR2 hR3 hrow hI hwl hgot hwt hgt hlen hj hvc hB
      go_wp2_with fail
      clear a0 a1 c6 q6 q7 d0 d1 L hcut ej ew k0 k1 k2
      refine ME.mono ?_
      clear ME
      rintro _ w5 ⟨rfl, b5, v5, hR5⟩
      have HR5 := hide hR5
      clear hR5
      have hb5 := hbw3.trans b5
      generalize (wr.alloc _).setCell _ _ = wq at *
      go_wp2
      go_roundw
      case rel => exact ⟨v5, _, hb5, unhide HR5, reachI_round (unhide HI2)⟩
      case measure =>
        have h1 := (unhide HR5).met
        have h2 := (unhide HR5).wait
        have h3 := unhide HMet
        have h4 := unhide HWait
        have hI5 := reachI_round (unhide HI2)
        have h5 := len_meetP (S u) (m, wt')
        have h6 := nodup_le _ N hI5.nd fun x hx => by
          obtain ⟨f, hf, hw⟩ := hI5.rch x hx
          cases hw with
          | here => exact (unhide HN).1 _ hf
          | step _ hx => exact (unhide HN).2 _ _ hx
        have h7 := nodup_le m (meetP (m, wt') (S u)).1 (unhide HI2).nd fun x hx => ((mem_meetP (S u) (m, wt') x).1).2 (.inl hx)
        have h8 : (wt' ++ [u]).length = wt'.length + 1 := by simp
        simp only at h3 h4 h5
        rw [h1, h2, h3, h4, h8]
        omega
end Go.Proofs.Ythmmplmppchfmaa

namespace Go.Proofs.Ythmmplmppchfmaa
open Go.RowKit Go.Sort

theorem StepsR.below {w w' : World} {M : List (U2 × Value)} {S : U2 → List U2} (h : StepsR w w.heap.size M S) (hb : Below w.heap.size w w') : StepsR w' w'.heap.size M S := fun u => by
  obtain ⟨ao, c, h1, h2, h3, h4⟩ := h u
  exact ⟨ao, c, h1, h2.below hb, fun ad e hne => Nat.lt_of_lt_of_le (h3 ad e hne) hb.size, h4⟩
def inSp (ao : Option Addr) (n cap : Nat) (M : List (U2 × Value)) (S : U2 → List U2) (u a : U2) : Nat → Value → World → Prop
  | 0, v, _ => v = .slice ao n cap
  | 1, v, w => ∃ b, v = .map (some b) ∧ IsMap w b M
  | 2, v, _ => v = .agg #[.string u.t, .string u.i]
  | 3, v, w => ∃ r, v = .slice (some ⟨r, 0, none⟩) 1 1 ∧ r < w.heap.size ∧ AtE2 w r 0 u
  | 4, v, w => ∃ b m, v = .map (some b) ∧ IsMap w b (setM m) ∧ ReachI S [u] (m, [])
  | 5, v, _ => v = .agg #[.string a.t, .string a.i]
  | 6, v, _ => ∃ z, v = .bool z ∧ (z = true ↔ Way S u a)
  | _ + 7, _, _ => True
theorem inSp_up {ao : Option Addr} {n cap : Nat} {M : List (U2 × Value)} {S : U2 → List U2} {u a : U2} {w w' : World} (hb : Below w.heap.size w w') : ∀ j v, inSp ao n cap M S u a j v w → inSp ao n cap M S u a j v w'
  | 0, _, h | 2, _, h | 5, _, h | 6, _, h => h
  | 1, _, ⟨b, e, h⟩ => ⟨b, e, h.below hb h.lt⟩
  | 3, _, ⟨r, e, h1, h2⟩ => ⟨r, e, Nat.lt_of_lt_of_le h1 hb.size, h2.below hb h1⟩
  | 4, _, ⟨b, m, e, h1, h2⟩ => ⟨b, m, e, h1.below hb h1.lt, h2⟩
  | _ + 7, _, _ => trivial

set_option maxHeartbeats 4000000 in
set_option maxRecDepth 1000000 in
theorem in_any (S : U2 → List U2) (es : List E4) (ao : Option Addr) (cap : Nat) (u a : U2) (N : List U2) (w : World) (hl : es.length ≤ 1048576) (hr : RowG w ao 4 (es.map E4.cells)) (hS : StepsR w w.heap.size (upM es) S) (hN2 : ∀ x, ∀ v ∈ S x, v ∈ N) (hN : N.length ≤ 99999) :
    Calls Try.prog 8 #[.slice ao es.length cap, u.val, a.val] w fun x w' => Below w.heap.size w w' ∧ ∃ z, x = .returned (.bool z) ∧ (z = true ↔ Way S u a) := by
  have b1 := belowA w (.cells #[.string u.t, .string u.i] 28)
  have b2 := belowA (w.alloc (.cells #[.string u.t, .string u.i] 28)) (.cells #[.string a.t, .string a.i] 28)
  have b02 := b1.trans (b2.mono b1.size)
  have z1 := sizeA w (.cells #[.string u.t, .string u.i] 28)
  have z2 := sizeA (w.alloc (.cells #[.string u.t, .string u.i] 28)) (.cells #[.string a.t, .string a.i] 28)
  have A1 : AtE2 ((w.alloc (.cells #[.string u.t, .string u.i] 28)).alloc (.cells #[.string a.t, .string a.i] 28)) w.heap.size 0 u := ⟨by simp, by simp⟩
  have A2 : AtE2 ((w.alloc (.cells #[.string u.t, .string u.i] 28)).alloc (.cells #[.string a.t, .string a.i] 28)) (w.heap.size + 1) 0 a := ⟨by simp, by simp⟩
  have hz : w.heap.size + 1 < ((w.alloc (.cells #[.string u.t, .string u.i] 28)).alloc (.cells #[.string a.t, .string a.i] 28)).heap.size := by rw [z2, z1]; omega
  have HR := hide hr
  have HS := hide hS
  have HN := hide hN2
  clear hr hS hN2 z1 z2
  unfold U2.val
  go_enter Try.func8, Try.ntmps8
  go_upto_region 1 with fail
  generalize (w.alloc _).alloc _ = w2 at *
  refine wp_specs_put 7 (inSp ao es.length cap (upM es) S u a) (fun w' => Below w2.heap.size w2 w') (by kernel_rfl) (by kernel_rfl) (Below.refl _ w2).drew ?_ ?_
  · intro j o hj ho a' w' hR hdep hslot K hK
    have b0' := b02.trans (hR.mono b02.size)
    have hc : j = 0 ∨ j = 1 ∨ j = 2 ∨ j = 3 ∨ j = 4 ∨ j = 5 ∨ j = 6 := by omega
    rcases hc with rfl | rfl | rfl | rfl | rfl | rfl | rfl
    · cases ho
      have e : a'.tmps.getD 0 undef = .slice ao es.length cap := hslot 0 (by decide)
      unfold Oper.wp
      go_simp
      exact hK _ _ rfl hR (fun _ _ h => h)
    · cases ho
      have e : a'.tmps.getD 7 undef = .slice ao es.length cap := hdep 0 (by kernel_rfl)
      have UP := upward_any es ao cap w' hl ((unhide HR).below b0')
      unfold Oper.wp
      go_simp
      refine UP.mono ?_
      rintro _ w3 ⟨b, rfl, hm, b3, _⟩
      exact hK _ _ ⟨b, rfl, hm⟩ (hR.trans (b3.mono hR.size)) (inSp_up b3)
    · cases ho
      have e : a'.tmps.getD 4 undef = .pointer (some ⟨w.heap.size, 0, none⟩) := hslot 4 (by decide)
      obtain ⟨c0, c1⟩ := A1.below hR (by omega)
      simp only [Nat.zero_add] at c1
      unfold Oper.wp
      go_simp
      exact hK _ _ rfl hR (fun _ _ h => h)
    · cases ho
      have e1 : a'.tmps.getD 9 undef = .agg #[.string u.t, .string u.i] := hdep 2 (by kernel_rfl)
      have e1' : a'.tmps[9]?.getD undef = .agg #[.string u.t, .string u.i] := by simpa using e1
      unfold Oper.wp
      go_simp
      exact hK _ _ ⟨w'.heap.size, rfl, by simp, ⟨by simp, by simp⟩⟩ (hR.alloc hR.size _) (inSp_up (belowA _ _))
    · cases ho
      obtain ⟨b, e1, hm⟩ : inSp ao es.length cap (upM es) S u a 1 (a'.tmps.getD 8 undef) w' := hdep 1 (by kernel_rfl)
      obtain ⟨r, e2, hr1, hr2⟩ : inSp ao es.length cap (upM es) S u a 3 (a'.tmps.getD 10 undef) w' := hdep 3 (by kernel_rfl)
      have RE := reach_any S (upM es) b [u] (u :: N) (some ⟨r, 0, none⟩) 1 w' ((unhide HS).below b0') hm (fun j hj => by
        obtain rfl : j = 0 := by simp at hj; omega
        refine ⟨r, 0, rfl, hr1, fun c v hv => ?_⟩
        simp only [List.map_cons, List.map_nil, List.getElem_cons_zero, U2.cells] at hv
        match c, hv with
        | 0, hv => cases hv; simpa using hr2.c0
        | 1, hv => cases hv; simpa using hr2.c1
        | _ + 2, hv => simp at hv) (by simp) (fun ad e _ => by cases e; exact hr1) (fun x hx => by simp at hx; simp [hx]) (fun x v hv => List.mem_cons_of_mem _ (unhide HN x v hv)) (by simp; omega)
      clear hr2 hm
      simp only [List.length_cons, List.length_nil, Nat.zero_add] at RE
      unfold Oper.wp
      go_simp
      refine RE.mono ?_
      rintro _ w3 ⟨b3, mb, m, rfl, hmm, _, hI⟩
      exact hK _ _ ⟨mb, m, rfl, hmm, hI⟩ (hR.trans (b3.mono hR.size)) (inSp_up b3)
    · cases ho
      have e : a'.tmps.getD 5 undef = .pointer (some ⟨w.heap.size + 1, 0, none⟩) := hslot 5 (by decide)
      obtain ⟨c0, c1⟩ := A2.below hR hz
      simp only [Nat.zero_add] at c1
      unfold Oper.wp
      go_simp
      exact hK _ _ rfl hR (fun _ _ h => h)
    · cases ho
      obtain ⟨mb, m, e1, hm, hI⟩ : inSp ao es.length cap (upM es) S u a 4 (a'.tmps.getD 11 undef) w' := hdep 4 (by kernel_rfl)
      have e2 : a'.tmps.getD 12 undef = .agg #[.string a.t, .string a.i] := hdep 5 (by kernel_rfl)
      have HA := has_any m mb a w' hm
      unfold U2.val at HA
      have hiff : decide (a ∈ m) = true ↔ Way S u a := by
        rw [decide_eq_true_eq, reachI_end hI]
        constructor
        · rintro ⟨f, hf, hw⟩
          have : f = u := by simpa using hf
          rw [← this]
          exact hw
        · exact fun hw => ⟨u, by simp, hw⟩
      clear hm hI
      unfold Oper.wp
      go_simp
      refine HA.mono ?_
      rintro _ w3 ⟨rfl, b3⟩
      exact hK _ _ ⟨_, rfl, hiff⟩ (hR.trans (b3.mono hR.size)) (inSp_up b3)
  · intro v w' hR hall
    have f0 := hall 0 (by decide)
    obtain ⟨g1, f1, _⟩ := hall 1 (by decide)
    have f2 := hall 2 (by decide)
    obtain ⟨g3, f3, _, _⟩ := hall 3 (by decide)
    obtain ⟨g4, m4, f4, _, _⟩ := hall 4 (by decide)
    have f5 := hall 5 (by decide)
    obtain ⟨z, f6, hzz⟩ := hall 6 (by decide)
    unfold inSp at f0 f2 f5
    have b0' := b02.trans (hR.mono b02.size)
    have HZ := hide hzz
    clear hall hzz
    simp only [putAll, dstOf, List.getElem?_cons_zero, List.getElem?_cons_succ, Option.bind_some, List.drop_succ_cons, List.drop_zero, f0, f1, f2, f3, f4, f5, f6]
    clear f0 f1 f2 f3 f4 f5 f6
    simp only [Act.put, List.setIfInBounds_toArray, List.set_cons_succ, List.set_cons_zero]
    go_wp2
    go_ret
    exact ⟨b0', z, rfl, unhide HZ⟩
end Go.Proofs.Ythmmplmppchfmaa
