/-
  chancellaw13.EvalIn, plain: in, of one and of a set of them.
  chancellaw13.EvalIn: a row of uids' trees in memory.
-/
import Derived.Test.YtpenhajbihlnjaaGreatGEU
namespace Go.Proofs.YtpenhajbihlnjaaGreat
open Go.RowKit Go.Sort

def uT (u : U2) : Ex := eUid u.t.data.toList u.i.data.toList
def uP (u : U2) : PV := .uid u.t.data.toList u.i.data.toList
def inT (x y : Ex) : Ex := .mk 22 false 0 [] [] [] [x, y]
def usT (l : List U2) : Ex := .mk 6 false 0 [] [] [] (l.map uT)
theorem eval_uT (D : EvD) (u : U2) : evalE D (uT u) = .inl (.pl (uP u)) := rfl
theorem uOf_uP (u : U2) : uOf (uP u) = u := by
  show (⟨ba u.t.data.toList, ba u.i.data.toList⟩ : U2) = u
  rw [ba_of, ba_of]
theorem eval_in1 (D : EvD) (u x : U2) : evalE D (inT (uT u) (uT x)) = boolC (D.f u x) := by
  have h : evalE D (inT (uT u) (uT x)) = boolC (D.f (uOf (uP u)) (uOf (uP x)) || false) := rfl
  rw [h, Bool.or_false, uOf_uP, uOf_uP]
theorem allR_us (D : EvD) : ∀ l : List U2, allR ((l.map uT).map (evalE D)) = .inl (l.map fun u => .pl (uP u))
  | [] => rfl
  | u :: l => by
    rw [List.map_cons, List.map_cons, eval_uT]
    unfold allR
    rw [allR_us D l]
    rfl
theorem plsOf_us : ∀ l : List U2, plsOf (l.map fun u => GV.pl (uP u)) = l.map uP
  | [] => rfl
  | u :: l => by
    have := plsOf_us l
    unfold plsOf at this ⊢
    rw [List.map_cons, List.filterMap_cons, this]
    rfl
theorem likeK_us : ∀ l : List U2, likeK (l.map fun u => GV.pl (uP u)) = true
  | [] => rfl
  | u :: l => by
    rw [List.map_cons]
    unfold likeK
    rw [List.all_eq_true]
    intro x hx
    have : ∃ v : U2, x = .pl (uP v) := by
      rcases List.mem_cons.1 hx with rfl | hx
      · exact ⟨u, rfl⟩
      · obtain ⟨v, _, rfl⟩ := List.mem_map.1 hx
        exact ⟨v, rfl⟩
    obtain ⟨v, rfl⟩ := this
    rfl
theorem eval_us (D : EvD) (l : List U2) (h : l.length ≤ 8) : evalE D (usT l) = .inl (.set (setOf lessP (l.map uP))) := by
  unfold usT
  rw [evalE_mk]
  unfold combC
  rw [if_neg (by rintro ⟨h | h, _⟩ <;> exact absurd h (by decide)), if_neg (by rintro ⟨h, _⟩; exact absurd h (by decide)), allR_us]
  show setC (l.map fun u => GV.pl (uP u)) = _
  unfold setC
  have h3 := lenG_setOf_le (lt := lessP) (l.map uP)
  rw [List.length_map] at h3
  rw [likeK_us, plsOf_us, if_pos rfl, if_pos (by omega)]
theorem eval_inS (D : EvD) (u : U2) (l : List U2) (h : l.length ≤ 8) : evalE D (inT (uT u) (usT l)) = boolC (l.any (D.f u)) := by
  unfold inT
  rw [evalE_mk]
  show (match allR [evalE D (uT u), evalE D (usT l)] with | .inl gs => nodeC D 22 false 0 [] [] [] gs | .inr e => (Sum.inr e : EvR)) = _
  rw [eval_us D l h]
  show inC D.f (.pl (uP u)) (.set (setOf lessP (l.map uP))) = _
  have hall : (setOf lessP (l.map uP)).all isU = true := by
    rw [List.all_eq_true]
    intro p hp
    obtain ⟨v, _, rfl⟩ := List.mem_map.1 ((mem_setOf sto_lessP _ _).1 hp)
    rfl
  have huids : uidsP (.set (setOf lessP (l.map uP))) = some ((setOf lessP (l.map uP)).map uOf) := by
    show (if (setOf lessP (l.map uP)).all isU = true then some ((setOf lessP (l.map uP)).map uOf) else none) = _
    rw [if_pos hall]
  unfold inC
  rw [huids]
  show boolC (((setOf lessP (l.map uP)).map uOf).any fun x => D.f (uOf (uP u)) x) = _
  congr 1
  rw [uOf_uP, Bool.eq_iff_iff, List.any_eq_true, List.any_eq_true]
  constructor
  · rintro ⟨x, hx, hf⟩
    obtain ⟨p, hp, rfl⟩ := List.mem_map.1 hx
    obtain ⟨v, hv, rfl⟩ := List.mem_map.1 ((mem_setOf sto_lessP _ _).1 hp)
    exact ⟨v, hv, by rw [uOf_uP] at hf; exact hf⟩
  · rintro ⟨x, hx, hf⟩
    exact ⟨x, List.mem_map.2 ⟨uP x, (mem_setOf sto_lessP _ _).2 (List.mem_map.2 ⟨x, hx, rfl⟩), uOf_uP x⟩, hf⟩
theorem eval_inL (D : EvD) (u : U2) (l : List U2) (h : l.length ≤ 8) : evalE D (inT (usT l) (uT u)) = .inr 16 := by
  unfold inT
  rw [evalE_mk]
  show (match allR [evalE D (usT l), evalE D (uT u)] with | .inl gs => nodeC D 22 false 0 [] [] [] gs | .inr e => (Sum.inr e : EvR)) = _
  rw [eval_us D l h]
  rfl
theorem okEvL_us : ∀ l : List U2, okEvL (l.map uT) = true
  | [] => rfl
  | u :: l => by
    have h0 : InR 0 := by decide
    rw [List.map_cons]
    unfold okEvL
    rw [okEvL_us l]
    unfold uT eUid
    simp [okEv, okEvL, h0]
theorem okEv_us (l : List U2) (h : l.length ≤ 8) : okEv (usT l) = true := by
  have h0 : InR 0 := by decide
  unfold usT
  have : (l.map uT).length ≤ 100000 := by rw [List.length_map]; omega
  simp only [okEv, okEvL_us, Bool.and_true]
  simp [h0]
  omega
theorem okEv_in {x y : Ex} (hx : okEv x = true) (hy : okEv y = true) : okEv (inT x y) = true := by
  have h0 : InR 0 := by decide
  unfold inT
  simp [okEv, okEvL, hx, hy, h0]
theorem okEv_u (u : U2) : okEv (uT u) = true := by
  have h0 : InR 0 := by decide
  unfold uT eUid
  simp [okEv, okEvL, h0]
end Go.Proofs.YtpenhajbihlnjaaGreat

namespace Go.Proofs.YtpenhajbihlnjaaGreat
open Go.RowKit Go.Sort

def uR (u : U2) : R7 := ⟨4, false, 0, ⟨#[]⟩, u.t, u.i, none, 0, 0⟩
theorem isE_u (w : World) (u : U2) : IsE w PT (uR u) (uT u) := by
  have h := isE_leaf w 4 false 0 [] u.t.data.toList u.i.data.toList 0 none
  rw [ba_of, ba_of] at h
  exact h
theorem allX_us (w : World) : ∀ l : List U2, AllX w (l.map uR) (l.map uT)
  | [] => .nil
  | u :: l => .cons (isE_u w u) (allX_us w l)
def uRow (l : List U2) : List (List Value) := l.map fun u => (uR u).cells
theorem len_uRow (l : List U2) : ∀ c ∈ uRow l, c.length = 7 := by
  intro c hc
  obtain ⟨u, _, rfl⟩ := List.mem_map.1 hc
  rfl
theorem isEs_ownU {w : World} {B : Nat} {kv : Value} {l : List U2} (h : w.ownsRow B 36 7 kv l.length (uRow l).flatten) (h0 : 0 < l.length) : ∃ ao cap, kv = .slice ao l.length cap ∧ IsEs w PT ao 0 (l.map uT) := by
  have hl : (uRow l).length = l.length := by unfold uRow; rw [List.length_map]
  have h' : w.ownsRow B 36 7 kv (uRow l).length (uRow l).flatten := by rw [hl]; exact h
  obtain ⟨ao, cap, hv, hr, _, h4⟩ := rowG_ownE (len_uRow l) h'
  rw [hl] at hv
  obtain ⟨b, off, e, hb, _⟩ := hr 0 (by rw [hl]; exact h0)
  obtain rfl : off = 0 := (h4 _ e).1
  refine ⟨ao, cap, hv, ?_⟩
  rw [e]
  refine isEs_at hb (l.map uR) (l.map uT) 0 (fun i hi => ?_) (allX_us w l)
  have hi' : i < l.length := by simpa using hi
  obtain ⟨b', off', e', _, hc⟩ := hr i (by rw [hl]; exact hi')
  rw [e] at e'
  cases e'
  have hg : (uRow l)[i]'(by rw [hl]; exact hi') = (uR l[i]).cells := by simp [uRow]
  rw [hg] at hc
  have hg2 : (l.map uR)[i] = uR l[i] := by simp
  rw [hg2, Nat.zero_add]
  have key : ∀ c v, (uR l[i]).cells[c]? = some v → w.cell? ⟨b, i * 7 + c, none⟩ = some v := fun c v hv => by
    have := hc c v hv
    rwa [Nat.zero_add] at this
  exact ⟨key 0 _ rfl, key 1 _ rfl, key 2 _ rfl, key 3 _ rfl, key 4 _ rfl, key 5 _ rfl, key 6 _ rfl⟩
end Go.Proofs.YtpenhajbihlnjaaGreat
