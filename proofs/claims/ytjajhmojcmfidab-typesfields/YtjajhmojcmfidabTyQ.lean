/-
  The kinds of a good schema: each name once (no walk in it).
-/
import Derived.Test.YtjajhmojcmfidabTyL
namespace Go.Proofs.Ytjajhmojcmfidab
open Go.RowKit Go.Sort

theorem pickKs_last (n : ByteArray) (ks : List KP) : ∀ acc : List KP, lastB (acc.getLast?.map KP.nm) n = true → pickKs n ks acc = acc := by
  unfold pickKs
  induction ks with
  | nil => intro acc _; rfl
  | cons k t ih =>
    intro acc h
    rw [List.foldl_cons]
    have e : pickK n acc k = acc := by
      unfold pickK pickB
      rw [h]
      simp
    rw [e]
    exact ih acc h
theorem pickKs_one (n : ByteArray) (ks : List KP) : ∀ acc : List KP, pickKs n ks acc = acc ∨ ∃ k, k.nm = n ∧ pickKs n ks acc = acc ++ [k] := by
  induction ks with
  | nil => intro acc; exact .inl rfl
  | cons k t ih =>
    intro acc
    have e : pickKs n (k :: t) acc = pickKs n t (pickK n acc k) := rfl
    rw [e]
    cases hb : pickB n acc k
    · have e2 : pickK n acc k = acc := by unfold pickK; rw [hb]; rfl
      rw [e2]
      exact ih acc
    · have e2 : pickK n acc k = acc ++ [k] := by unfold pickK; rw [hb]; rfl
      have hn : k.nm = n := by
        unfold pickB at hb
        simp only [Bool.and_eq_true, decide_eq_true_eq] at hb
        exact hb.1
      rw [e2, pickKs_last n t (acc ++ [k]) (by simp [lastB, hn])]
      exact .inr ⟨k, hn, rfl⟩
theorem good1_sub (ks : List KP) : ∀ (l : List ByteArray) (acc : List KP), ((l.foldl (fun acc n => pickKs n ks acc) acc).map KP.nm).Sublist (acc.map KP.nm ++ l) := by
  intro l
  induction l with
  | nil => intro acc; simp
  | cons n t ih =>
    intro acc
    rw [List.foldl_cons]
    refine (ih _).trans ?_
    rcases pickKs_one n ks acc with h | ⟨k, hk, h⟩
    · rw [h]
      exact List.Sublist.append (List.Sublist.refl _) (List.sublist_cons_self n t)
    · rw [h, List.map_append, List.append_assoc]
      have : [k].map KP.nm ++ t = n :: t := by rw [← hk]; rfl
      rw [this]
      exact List.Sublist.refl _
theorem good_names (X : SP) : ((goodS X).ks.map KP.nm).Sublist names4 := by
  have h := good1_sub X.ks names4 []
  have e : (goodS X).ks.map KP.nm = (good1 X.ks names4).map KP.nm := by
    unfold goodS
    rw [List.map_map]
    rfl
  rw [e]
  exact h
theorem names4_nodup : names4.Nodup := by decide
theorem good_nodup (X : SP) : ((goodS X).ks.map KP.nm).Nodup := (good_names X).nodup names4_nodup
theorem act_names4 : sAction ∉ names4 := by
  intro h
  unfold names4 at h
  simp only [List.mem_cons, List.not_mem_nil, or_false] at h
  rcases h with h | h | h | h <;> exact absurd h (by decide)
theorem good_noAction (X : SP) : noneB (goodS X).names sAction = true := noneB_true fun h => absurd ((good_names X).subset h) act_names4
theorem good_notAction (X : SP) (j : Nat) (h : j < (goodS X).ks.length) : (goodS X).ks[j].nm ≠ sAction := fun e => by
  have hm : (goodS X).ks[j].nm ∈ (goodS X).ks.map KP.nm := List.mem_map.2 ⟨_, List.getElem_mem h, rfl⟩
  rw [e] at hm
  exact absurd ((good_names X).subset hm) act_names4
theorem good_kOf (X : SP) (j : Nat) (h : j < (goodS X).ks.length) : kOf (goodS X) (goodS X).ks[j].nm = (goodS X).ks[j] := by
  unfold kOf
  rw [find_first KP.nm _ (goodS X).ks j h rfl (fun i hi hij e => by
    have hp := good_nodup X
    rw [List.nodup_iff_pairwise_ne, List.pairwise_iff_getElem] at hp
    have := hp i j (by simpa using hi) (by simpa using h) hij
    simp only [List.getElem_map] at this
    exact this e)]
  rfl
theorem good_named (X : SP) (j : Nat) (h : j < (goodS X).ks.length) : noneB (goodS X).names (goodS X).ks[j].nm = false := noneB_false (List.mem_map.2 ⟨_, List.getElem_mem h, rfl⟩)
/-- Where there are no kinds there are no environments. -/
theorem good_none (X : SP) (h : (goodS X).ks = []) : allA (goodS X).ac = [] := by
  have hn : goodNs X.ks = [] := by
    unfold goodNs
    unfold goodS at h
    rw [List.map_eq_nil_iff] at h ⊢
    exact h
  unfold allA
  rw [List.flatMap_eq_nil_iff]
  intro a ha
  have ha' : a ∈ goodA (goodNs X.ks) X.ac acts3 := ha
  obtain ⟨b, _, rfl⟩ := goodA_mem _ _ _ a ha'
  have e : (actG (goodNs X.ks) b).pr = [] := by
    show thoseL (goodNs X.ks) b.pr = []
    rw [hn]
    unfold thoseL
    rw [List.filter_eq_nil_iff]
    intro x _
    simp [noneB]
  rw [e]
  rfl
theorem ba_back (n : ByteArray) : ba n.data.toList = n := by
  unfold ba
  cases n
  simp
section
variable (X : SP) (p r : ByteArray) (j : Nat) (h : j < (goodS X).ks.length) (sx : List UInt8)
def uidZ (n : ByteArray) : Ex := .mk 4 false 0 [] n.data.toList [122] []
include h
theorem typ_uid : typE (goodS X) p r (uidZ (goodS X).ks[j].nm) = (⟨4, 0, (goodS X).ks[j].nm⟩, 0) := by
  unfold uidZ
  rw [typE_mk, typL]
  show entT (ba _) (namedB (goodS X) (ba _) _) = _
  rw [ba_back]
  unfold namedB
  rw [if_neg (good_notAction X j h), good_named X j h]
  rfl
theorem typ_get : typE (goodS X) p r (.mk 7 false 0 sx [] [] [uidZ (goodS X).ks[j].nm]) = if (fldT (goodS X).ks[j].fs (ba sx)).2 then ((fldT (goodS X).ks[j].fs (ba sx)).1, 0) else (zT, 15) := by
  rw [typE_mk, typL, if_pos (by rw [typ_uid X p r j h]), typL, typ_uid X p r j h]
  show fieldT (goodS X) (goodS X).ks[j].nm (ba sx) = _
  unfold fieldT
  rw [good_named X j h, good_kOf X j h]
  rfl
theorem typ_has : typE (goodS X) p r (.mk 8 false 0 sx [] [] [uidZ (goodS X).ks[j].nm]) = (⟨1, 0, ⟨#[]⟩⟩, 0) := by
  rw [typE_mk, typL, if_pos (by rw [typ_uid X p r j h]), typL, typ_uid X p r j h]
  rfl
omit h
theorem typ_act : typE (goodS X) p r (.mk 7 false 0 sx [] [] [eVar cAction]) = (zT, 15) := by
  have e : typE (goodS X) p r (eVar cAction) = (⟨4, 0, sAction⟩, 0) := by
    unfold eVar
    rw [typE_mk, typL]
    show varT p r (ba cAction) = _
    unfold varT
    rw [if_neg (by decide), if_pos (show ba cAction = sActn from rfl)]
  rw [typE_mk, typL, if_pos (by rw [e]), typL, e]
  show fieldT (goodS X) sAction (ba sx) = _
  unfold fieldT
  rw [good_noAction X]
  rfl
end
end Go.Proofs.Ytjajhmojcmfidab
