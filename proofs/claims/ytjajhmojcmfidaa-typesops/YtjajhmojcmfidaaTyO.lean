/-
  chancellaw11.TypesOps: the walk.
-/
import Derived.Test.YtjajhmojcmfidaaTyRK
namespace Go.Proofs.Ytjajhmojcmfidaa
open Go.RowKit Go.Sort

def opS : SP := ⟨[⟨⟨#[65]⟩, [], []⟩], []⟩
theorem sm_op : SmS opS := ⟨by decide, by decide, fun k hk => by
  simp only [opS, List.mem_cons, List.not_mem_nil, or_false] at hk
  subst hk
  exact ⟨by decide, by decide⟩, fun _ h => absurd h List.not_mem_nil⟩
theorem isS_op {w : World} {b : Nat} (h : w.heap[b]? = some (.cells #[.string ⟨#[65]⟩, .slice none 0 0, .slice none 0 0] 84 (0, 0))) : IsS w (.agg #[.slice (some ⟨b, 0, none⟩) 1 1, .slice none 0 0]) opS := by
  refine ⟨⟨some ⟨b, 0, none⟩, 1, none, 0, rfl, ⟨⟨[⟨⟨#[65]⟩, none, 0, 0, none, 0, 0⟩], rfl, rowG_block _ h rfl (fun c hc => ?_), fun j hj hj' => ?_⟩⟩, isAs_nil _ _⟩⟩
  · obtain ⟨u, _, rfl⟩ := List.mem_map.1 hc
    rfl
  · have hj0 : j = 0 := by simpa using hj
    subst hj0
    exact isK_bare _ _
def thT : List Ex := [eBool false, eLong 0, eStr [], eVar cPrincipal, eOp 6 [eLong 0], eOp 6 [eVar cResource]]
def tyT : List T3 := [⟨1, 0, ⟨#[]⟩⟩, ⟨2, 0, ⟨#[]⟩⟩, ⟨3, 0, ⟨#[]⟩⟩, ⟨4, 0, ⟨#[65]⟩⟩, ⟨5, 2, ⟨#[]⟩⟩, ⟨5, 4, ⟨#[65]⟩⟩]
theorem th_typ : ∀ x (h : x < 6), typE opS ⟨#[65]⟩ ⟨#[65]⟩ (thT[x]'h) = (tyT[x]'h, 0)
  | 0, _ | 1, _ | 2, _ | 3, _ | 4, _ | 5, _ => by kernel_rfl
theorem th_dep : ∀ x (h : x < 6), depE (thT[x]'h) ≤ 3 ∧ slE (thT[x]'h) = true
  | 0, _ | 1, _ | 2, _ | 3, _ | 4, _ | 5, _ => ⟨Nat.le_of_ble_eq_true rfl, rfl⟩
theorem all_th {w : World} {b : Nat} (h1 : w.heap[b]? = some (.cells #[.int .i64 2, .bool false, .int .i64 0, .string ⟨#[]⟩, .string ⟨#[]⟩, .string ⟨#[]⟩, .slice none 0 0] 39 (0, 0))) (h2 : w.heap[b + 1]? = some (.cells #[.int .i64 5, .bool false, .int .i64 0, .string ⟨#[114, 101, 115, 111, 117, 114, 99, 101]⟩, .string ⟨#[]⟩, .string ⟨#[]⟩, .slice none 0 0] 39 (0, 0))) : AllX w [⟨1, false, 0, ⟨#[]⟩, ⟨#[]⟩, ⟨#[]⟩, none, 0, 0⟩, ⟨2, false, 0, ⟨#[]⟩, ⟨#[]⟩, ⟨#[]⟩, none, 0, 0⟩, ⟨3, false, 0, ⟨#[]⟩, ⟨#[]⟩, ⟨#[]⟩, none, 0, 0⟩, ⟨5, false, 0, ⟨#[112, 114, 105, 110, 99, 105, 112, 97, 108]⟩, ⟨#[]⟩, ⟨#[]⟩, none, 0, 0⟩, ⟨6, false, 0, ⟨#[]⟩, ⟨#[]⟩, ⟨#[]⟩, some ⟨b, 0, none⟩, 1, 1⟩, ⟨6, false, 0, ⟨#[]⟩, ⟨#[]⟩, ⟨#[]⟩, some ⟨b + 1, 0, none⟩, 1, 1⟩] thT :=
  .cons (isE_leaf _ 1 false 0 [] [] [] 0 none) (.cons (isE_leaf _ 2 false 0 [] [] [] 0 none) (.cons (isE_leaf _ 3 false 0 [] [] [] 0 none) (.cons (isE_leaf _ 5 false 0 cPrincipal [] [] 0 none) (.cons (isE_node (s := []) (t := []) (i := []) rfl (isEs_block [⟨2, false, 0, ⟨#[]⟩, ⟨#[]⟩, ⟨#[]⟩, none, 0, 0⟩] [eLong 0] h1 rfl (.cons (isE_leaf _ 2 false 0 [] [] [] 0 none) .nil))) (.cons (isE_node (s := []) (t := []) (i := []) rfl (isEs_block [⟨5, false, 0, ⟨#[114, 101, 115, 111, 117, 114, 99, 101]⟩, ⟨#[]⟩, ⟨#[]⟩, none, 0, 0⟩] [eVar cResource] h2 rfl (.cons (isE_leaf _ 5 false 0 cResource [] [] 0 none) .nil))) .nil)))))
theorem kept_of_mem {B b : Nat} {w w' : World} {o : Obj} (hb : Below B w w') (hl : b < B) (h : w.heap[b]? = some o) : w'.heap[b]? = some o := (hb.block b hl).trans h
section
variable {x y z : Nat} (hx : x < 6) (hy : y < 6) (hz : z < 6)
include hx
theorem dep_one {k : Int} : depE (.mk k false 0 [] [] [] [thT[x]'hx]) ≤ 10 := by
  unfold depE depL depL
  have := (th_dep x hx).1
  omega
theorem sl_one {k : Int} : slE (.mk k false 0 [] [] [] [thT[x]'hx]) = true := by
  rw [slE, slL, slL, (th_dep x hx).2]
  rfl
theorem typ_one {k : Int} (hk : k ≠ 6) : typE opS ⟨#[65]⟩ ⟨#[65]⟩ (.mk k false 0 [] [] [] [thT[x]'hx]) = oneT opS k ⟨#[]⟩ (tyT[x]'hx) := by
  rw [typE_mk, typL, if_pos (by rw [th_typ x hx]), typL, th_typ x hx]
  exact if_neg hk
include hy
theorem dep_two {k : Int} : depE (.mk k false 0 [] [] [] [thT[x]'hx, thT[y]'hy]) ≤ 10 := by
  unfold depE depL depL depL
  have := (th_dep x hx).1
  have := (th_dep y hy).1
  omega
theorem sl_two {k : Int} : slE (.mk k false 0 [] [] [] [thT[x]'hx, thT[y]'hy]) = true := by
  rw [slE, slL, slL, slL, (th_dep x hx).2, (th_dep y hy).2]
  rfl
theorem typ_two {k : Int} (hk : k ≠ 6) : typE opS ⟨#[65]⟩ ⟨#[65]⟩ (.mk k false 0 [] [] [] [thT[x]'hx, thT[y]'hy]) = twoT k (tyT[x]'hx) (tyT[y]'hy) := by
  rw [typE_mk, typL, if_pos (by rw [th_typ x hx]), typL, if_pos (by rw [th_typ y hy]), typL, th_typ x hx, th_typ y hy]
  exact if_neg hk
include hz
theorem dep_three {k : Int} : depE (.mk k false 0 [] [] [] [thT[x]'hx, thT[y]'hy, thT[z]'hz]) ≤ 10 := by
  unfold depE depL depL depL depL
  have := (th_dep x hx).1
  have := (th_dep y hy).1
  have := (th_dep z hz).1
  omega
theorem sl_three {k : Int} : slE (.mk k false 0 [] [] [] [thT[x]'hx, thT[y]'hy, thT[z]'hz]) = true := by
  rw [slE, slL, slL, slL, slL, (th_dep x hx).2, (th_dep y hy).2, (th_dep z hz).2]
  rfl
theorem typ_three {k : Int} (hk : k ≠ 6) : typE opS ⟨#[65]⟩ ⟨#[65]⟩ (.mk k false 0 [] [] [] [thT[x]'hx, thT[y]'hy, thT[z]'hz]) = threeT k (tyT[x]'hx) (tyT[y]'hy) (tyT[z]'hz) := by
  rw [typE_mk, typL, if_pos (by rw [th_typ x hx]), typL, if_pos (by rw [th_typ y hy]), typL, if_pos (by rw [th_typ z hz]), typL, th_typ x hx, th_typ y hy, th_typ z hz]
  exact if_neg hk
end
theorem tab9 : ∀ (x y : Nat) (hx : x < 6) (hy : y < 6), twoT 9 (tyT[x]'hx) (tyT[y]'hy) = if x = 4 ∧ y = 1 ∨ x = 5 ∧ y = 3 then (⟨1, 0, ⟨#[]⟩⟩, 0) else (zT, 16) := by
  have h : ∀ x y : Fin 6, twoT 9 (tyT[x.1]'x.2) (tyT[y.1]'y.2) = if x.1 = 4 ∧ y.1 = 1 ∨ x.1 = 5 ∧ y.1 = 3 then (⟨1, 0, ⟨#[]⟩⟩, 0) else (zT, 16) := by decide
  exact fun x y hx hy => h ⟨x, hx⟩ ⟨y, hy⟩
theorem tab13 : ∀ (x y : Nat) (hx : x < 6) (hy : y < 6), twoT 13 (tyT[x]'hx) (tyT[y]'hy) = if x = 1 ∧ y = 1 then (⟨2, 0, ⟨#[]⟩⟩, 0) else (zT, 16) := by
  have h : ∀ x y : Fin 6, twoT 13 (tyT[x.1]'x.2) (tyT[y.1]'y.2) = if x.1 = 1 ∧ y.1 = 1 then (⟨2, 0, ⟨#[]⟩⟩, 0) else (zT, 16) := by decide
  exact fun x y hx hy => h ⟨x, hx⟩ ⟨y, hy⟩
theorem tab14 : ∀ (x y : Nat) (hx : x < 6) (hy : y < 6), twoT 14 (tyT[x]'hx) (tyT[y]'hy) = if x = 1 ∧ y = 1 then (⟨2, 0, ⟨#[]⟩⟩, 0) else (zT, 16) := by
  have h : ∀ x y : Fin 6, twoT 14 (tyT[x.1]'x.2) (tyT[y.1]'y.2) = if x.1 = 1 ∧ y.1 = 1 then (⟨2, 0, ⟨#[]⟩⟩, 0) else (zT, 16) := by decide
  exact fun x y hx hy => h ⟨x, hx⟩ ⟨y, hy⟩
theorem tab15 : ∀ (x y : Nat) (hx : x < 6) (hy : y < 6), twoT 15 (tyT[x]'hx) (tyT[y]'hy) = if x = 1 ∧ y = 1 then (⟨2, 0, ⟨#[]⟩⟩, 0) else (zT, 16) := by
  have h : ∀ x y : Fin 6, twoT 15 (tyT[x.1]'x.2) (tyT[y.1]'y.2) = if x.1 = 1 ∧ y.1 = 1 then (⟨2, 0, ⟨#[]⟩⟩, 0) else (zT, 16) := by decide
  exact fun x y hx hy => h ⟨x, hx⟩ ⟨y, hy⟩
theorem tab16 : ∀ (x y : Nat) (hx : x < 6) (hy : y < 6), twoT 16 (tyT[x]'hx) (tyT[y]'hy) = if x = 1 ∧ y = 1 then (⟨1, 0, ⟨#[]⟩⟩, 0) else (zT, 16) := by
  have h : ∀ x y : Fin 6, twoT 16 (tyT[x.1]'x.2) (tyT[y.1]'y.2) = if x.1 = 1 ∧ y.1 = 1 then (⟨1, 0, ⟨#[]⟩⟩, 0) else (zT, 16) := by decide
  exact fun x y hx hy => h ⟨x, hx⟩ ⟨y, hy⟩
theorem tab17 : ∀ (x y : Nat) (hx : x < 6) (hy : y < 6), twoT 17 (tyT[x]'hx) (tyT[y]'hy) = if x = 1 ∧ y = 1 then (⟨1, 0, ⟨#[]⟩⟩, 0) else (zT, 16) := by
  have h : ∀ x y : Fin 6, twoT 17 (tyT[x.1]'x.2) (tyT[y.1]'y.2) = if x.1 = 1 ∧ y.1 = 1 then (⟨1, 0, ⟨#[]⟩⟩, 0) else (zT, 16) := by decide
  exact fun x y hx hy => h ⟨x, hx⟩ ⟨y, hy⟩
theorem tab18 : ∀ (x y : Nat) (hx : x < 6) (hy : y < 6), twoT 18 (tyT[x]'hx) (tyT[y]'hy) = if x = 1 ∧ y = 1 then (⟨1, 0, ⟨#[]⟩⟩, 0) else (zT, 16) := by
  have h : ∀ x y : Fin 6, twoT 18 (tyT[x.1]'x.2) (tyT[y.1]'y.2) = if x.1 = 1 ∧ y.1 = 1 then (⟨1, 0, ⟨#[]⟩⟩, 0) else (zT, 16) := by decide
  exact fun x y hx hy => h ⟨x, hx⟩ ⟨y, hy⟩
theorem tab19 : ∀ (x y : Nat) (hx : x < 6) (hy : y < 6), twoT 19 (tyT[x]'hx) (tyT[y]'hy) = if x = 1 ∧ y = 1 then (⟨1, 0, ⟨#[]⟩⟩, 0) else (zT, 16) := by
  have h : ∀ x y : Fin 6, twoT 19 (tyT[x.1]'x.2) (tyT[y.1]'y.2) = if x.1 = 1 ∧ y.1 = 1 then (⟨1, 0, ⟨#[]⟩⟩, 0) else (zT, 16) := by decide
  exact fun x y hx hy => h ⟨x, hx⟩ ⟨y, hy⟩
theorem tab20 : ∀ (x y : Nat) (hx : x < 6) (hy : y < 6), twoT 20 (tyT[x]'hx) (tyT[y]'hy) = if x = y then (⟨1, 0, ⟨#[]⟩⟩, 0) else (zT, 16) := by
  have h : ∀ x y : Fin 6, twoT 20 (tyT[x.1]'x.2) (tyT[y.1]'y.2) = if x.1 = y.1 then (⟨1, 0, ⟨#[]⟩⟩, 0) else (zT, 16) := by decide
  exact fun x y hx hy => h ⟨x, hx⟩ ⟨y, hy⟩
theorem tab21 : ∀ (x y : Nat) (hx : x < 6) (hy : y < 6), twoT 21 (tyT[x]'hx) (tyT[y]'hy) = if x = y then (⟨1, 0, ⟨#[]⟩⟩, 0) else (zT, 16) := by
  have h : ∀ x y : Fin 6, twoT 21 (tyT[x.1]'x.2) (tyT[y.1]'y.2) = if x.1 = y.1 then (⟨1, 0, ⟨#[]⟩⟩, 0) else (zT, 16) := by decide
  exact fun x y hx hy => h ⟨x, hx⟩ ⟨y, hy⟩
theorem tab22 : ∀ (x y : Nat) (hx : x < 6) (hy : y < 6), twoT 22 (tyT[x]'hx) (tyT[y]'hy) = if x = 3 ∧ (y = 3 ∨ y = 5) then (⟨1, 0, ⟨#[]⟩⟩, 0) else (zT, 16) := by
  have h : ∀ x y : Fin 6, twoT 22 (tyT[x.1]'x.2) (tyT[y.1]'y.2) = if x.1 = 3 ∧ (y.1 = 3 ∨ y.1 = 5) then (⟨1, 0, ⟨#[]⟩⟩, 0) else (zT, 16) := by decide
  exact fun x y hx hy => h ⟨x, hx⟩ ⟨y, hy⟩
theorem tab23 : ∀ (x y : Nat) (hx : x < 6) (hy : y < 6), twoT 23 (tyT[x]'hx) (tyT[y]'hy) = if x = 0 ∧ y = 0 then (⟨1, 0, ⟨#[]⟩⟩, 0) else (zT, 16) := by
  have h : ∀ x y : Fin 6, twoT 23 (tyT[x.1]'x.2) (tyT[y.1]'y.2) = if x.1 = 0 ∧ y.1 = 0 then (⟨1, 0, ⟨#[]⟩⟩, 0) else (zT, 16) := by decide
  exact fun x y hx hy => h ⟨x, hx⟩ ⟨y, hy⟩
theorem tab24 : ∀ (x y : Nat) (hx : x < 6) (hy : y < 6), twoT 24 (tyT[x]'hx) (tyT[y]'hy) = if x = 0 ∧ y = 0 then (⟨1, 0, ⟨#[]⟩⟩, 0) else (zT, 16) := by
  have h : ∀ x y : Fin 6, twoT 24 (tyT[x.1]'x.2) (tyT[y.1]'y.2) = if x.1 = 0 ∧ y.1 = 0 then (⟨1, 0, ⟨#[]⟩⟩, 0) else (zT, 16) := by decide
  exact fun x y hx hy => h ⟨x, hx⟩ ⟨y, hy⟩
theorem tab10 : ∀ (x : Nat) (hx : x < 6), oneT opS 10 ⟨#[]⟩ (tyT[x]'hx) = if x = 2 then (⟨1, 0, ⟨#[]⟩⟩, 0) else (zT, 16) := by
  have h : ∀ x : Fin 6, oneT opS 10 ⟨#[]⟩ (tyT[x.1]'x.2) = if x.1 = 2 then (⟨1, 0, ⟨#[]⟩⟩, 0) else (zT, 16) := by decide
  exact fun x hx => h ⟨x, hx⟩
theorem tab11 : ∀ (x : Nat) (hx : x < 6), oneT opS 11 ⟨#[]⟩ (tyT[x]'hx) = if x = 0 then (⟨1, 0, ⟨#[]⟩⟩, 0) else (zT, 16) := by
  have h : ∀ x : Fin 6, oneT opS 11 ⟨#[]⟩ (tyT[x.1]'x.2) = if x.1 = 0 then (⟨1, 0, ⟨#[]⟩⟩, 0) else (zT, 16) := by decide
  exact fun x hx => h ⟨x, hx⟩
theorem tab12 : ∀ (x : Nat) (hx : x < 6), oneT opS 12 ⟨#[]⟩ (tyT[x]'hx) = if x = 1 then (⟨2, 0, ⟨#[]⟩⟩, 0) else (zT, 16) := by
  have h : ∀ x : Fin 6, oneT opS 12 ⟨#[]⟩ (tyT[x.1]'x.2) = if x.1 = 1 then (⟨2, 0, ⟨#[]⟩⟩, 0) else (zT, 16) := by decide
  exact fun x hx => h ⟨x, hx⟩
theorem tab25 : ∀ (x y z : Nat) (hx : x < 6) (hy : y < 6) (hz : z < 6), typE opS ⟨#[65]⟩ ⟨#[65]⟩ (.mk 25 false 0 [] [] [] [thT[x]'hx, thT[y]'hy, thT[z]'hz]) = if x = 0 ∧ y = z then (tyT[y]'hy, 0) else (zT, 16) := by
  have h : ∀ x y z : Fin 6, threeT 25 (tyT[x.1]'x.2) (tyT[y.1]'y.2) (tyT[z.1]'z.2) = if x.1 = 0 ∧ y.1 = z.1 then (tyT[y.1]'y.2, 0) else (zT, 16) := by decide
  exact fun x y z hx hy hz => (typ_three hx hy hz (by decide)).trans (h ⟨x, hx⟩ ⟨y, hy⟩ ⟨z, hz⟩)
theorem kinds_at : ∀ (y : Nat) (hy : y < 6), (#[Value.int .i64 1, .int .i64 2, .int .i64 3, .int .i64 4, .int .i64 5, .int .i64 5] : Array Value)[y]? = some (.int .i64 (tyT[y]'hy).k)
  | 0, _ | 1, _ | 2, _ | 3, _ | 4, _ | 5, _ => rfl
theorem at7_take {w : World} {b : Nat} {T : TypeId} {fz : Nat × Nat} {cs : Array Value} (rs : List R7) (h : w.heap[b]? = some (.cells cs T fz)) (hc : cs.toList.take (rs.length * 7) = cellsE rs) : ∀ i (hi : i < rs.length), At7 w b (i * 7) rs[i] := by
  intro i hi
  have key : ∀ c u, c < 7 → (rs[i].cells)[c]? = some u → w.cell? ⟨b, i * 7 + c, none⟩ = some u := fun c u hc' hu => by
    have h1 := cellsE_at rs i hi c hc'
    rw [hu, ← hc, List.getElem?_take] at h1
    rw [Lib.cell_of_heap h]
    split at h1
    · simpa using h1
    · cases h1
  exact ⟨key 0 _ (by decide) rfl, key 1 _ (by decide) rfl, key 2 _ (by decide) rfl, key 3 _ (by decide) rfl, key 4 _ (by decide) rfl, key 5 _ (by decide) rfl, key 6 _ (by decide) rfl⟩
/-- What the operations answer that lay on a third kid. -/
def S29 (V b8 S2 z : Nat) (rx ry rz : R7) (B : Nat) : Nat → Value → World → Prop
  | 0, v, _ => v = .pointer (some ⟨V, 6, none⟩)
  | 1, v, _ => v = .slice (some ⟨b8, 0, none⟩) 2 2
  | 2, v, _ => v = .slice (some ⟨S2, 0, none⟩) 6 6
  | 3, v, _ => v = .int .i64 (z : Nat)
  | 4, v, _ => v = .pointer (some ⟨S2, z * 7, none⟩)
  | 5, v, _ => v = .agg #[.int .i64 rz.k, .bool rz.b, .int .i64 rz.n, .string rz.s, .string rz.t, .string rz.i, .slice rz.lo rz.ll rz.lc]
  | 6, v, w => ∃ b, B ≤ b ∧ v = .slice (some ⟨b, 0, none⟩) 1 1 ∧ w.heap[b]? = some (.cells #[.int .i64 rz.k, .bool rz.b, .int .i64 rz.n, .string rz.s, .string rz.t, .string rz.i, .slice rz.lo rz.ll rz.lc] 39 (0, 0))
  | 7, v, w => ∃ g cap cur, v = .slice (some ⟨g, 0, none⟩) 3 cap ∧ w.heap[g]? = some (.cells cur 39 (0, 0)) ∧ cur.toList.take (3 * 7) = cellsE [rx, ry, rz] ∧ 21 ≤ cur.size
  | 8, v, _ => v = .pointer (some ⟨V, 6, none⟩)
  | _ + 9, _, _ => True
section
variable {V b8 S2 z B : Nat} {rx ry rz : R7} {w w' : World}
theorem S29_kept (h6 : ∀ b, B ≤ b → w.heap[b]? = some (.cells #[.int .i64 rz.k, .bool rz.b, .int .i64 rz.n, .string rz.s, .string rz.t, .string rz.i, .slice rz.lo rz.ll rz.lc] 39 (0, 0)) → w'.heap[b]? = w.heap[b]?) (h7 : ∀ (g : Nat) (cur : Array Value), 21 ≤ cur.size → w.heap[g]? = some (.cells cur 39 (0, 0)) → w'.heap[g]? = w.heap[g]?) : ∀ q u, S29 V b8 S2 z rx ry rz B q u w → S29 V b8 S2 z rx ry rz B q u w'
  | 0, _, h | 1, _, h | 2, _, h | 3, _, h | 4, _, h | 5, _, h | 8, _, h => h
  | 6, _, ⟨b, hB, e, h⟩ => ⟨b, hB, e, (h6 b hB h).trans h⟩
  | 7, _, ⟨g, cap, cur, e, h1, h2, h3⟩ => ⟨g, cap, cur, e, (h7 g cur h3 h1).trans h1, h2, h3⟩
  | _ + 9, _, _ => trivial
theorem S29_up (hb : Below w.heap.size w w') : ∀ q u, S29 V b8 S2 z rx ry rz B q u w → S29 V b8 S2 z rx ry rz B q u w' :=
  S29_kept (fun b _ h => hb.block b (Array.getElem?_eq_some_iff.1 h).1) (fun g _ _ h => hb.block g (Array.getElem?_eq_some_iff.1 h).1)
theorem S29_grow {cap : Nat} (hg : w.grownBy w' (Value.slice (some ⟨b8, 0, none⟩) 2 cap).ownBlock) (hrow : w.heap[b8]? = some (.cells #[.int .i64 rx.k, .bool rx.b, .int .i64 rx.n, .string rx.s, .string rx.t, .string rx.i, .slice rx.lo rx.ll rx.lc, .int .i64 ry.k, .bool ry.b, .int .i64 ry.n, .string ry.s, .string ry.t, .string ry.i, .slice ry.lo ry.ll ry.lc] 39 (0, 0))) : ∀ q u, S29 V b8 S2 z rx ry rz B q u w → S29 V b8 S2 z rx ry rz B q u w' :=
  S29_kept (fun b _ h => hg.block b (Array.getElem?_eq_some_iff.1 h).1 (fun e => ne_blocks h hrow (by simp) (Option.some.inj e))) (fun g cur h3 h => hg.block g (Array.getElem?_eq_some_iff.1 h).1 (fun e => ne_blocks h hrow (by intro e; simp at e; omega) (Option.some.inj e)))
theorem S29_set {v : Value} {c : Array Value} (hVB : V < B) (hv : w.heap[V]? = some (.cells c 39 (0, 0))) (hc : c.size = 7 := by rfl) : ∀ q u, S29 V b8 S2 z rx ry rz B q u w → S29 V b8 S2 z rx ry rz B q u (w.setCell ⟨V, 6, none⟩ v) :=
  S29_kept (fun b hB _ => Below.heap_setCell w ⟨V, 6, none⟩ v b (by show b ≠ V; omega)) (fun g cur h3 h => Below.heap_setCell w ⟨V, 6, none⟩ v g (ne_blocks h hv (by omega)))
end
/-- While a third kid is laid on. -/
structure RA (V b8 : Nat) (w6 : World) (rx ry rz : R7) (L : Nat → Bool) (a' : Act) (w' : World) : Prop where
  below : Below V w6 w'
  size : w6.heap.size ≤ w'.heap.size
  v0 : L 9 = false → w'.heap[V]? = some (.cells #[.int .i64 25, .bool false, .int .i64 0, .string ⟨#[]⟩, .string ⟨#[]⟩, .string ⟨#[]⟩, .slice (some ⟨b8, 0, none⟩) 2 2] 39 (0, 0))
  row : L 7 = false → w'.heap[b8]? = some (.cells #[.int .i64 rx.k, .bool rx.b, .int .i64 rx.n, .string rx.s, .string rx.t, .string rx.i, .slice rx.lo rx.ll rx.lc, .int .i64 ry.k, .bool ry.b, .int .i64 ry.n, .string ry.s, .string ry.t, .string ry.i, .slice ry.lo ry.ll ry.lc] 39 (0, 0))
  full : L 9 = true → ∃ g cap cur, w'.heap[V]? = some (.cells #[.int .i64 25, .bool false, .int .i64 0, .string ⟨#[]⟩, .string ⟨#[]⟩, .string ⟨#[]⟩, .slice (some ⟨g, 0, none⟩) 3 cap] 39 (0, 0)) ∧ w'.heap[g]? = some (.cells cur 39 (0, 0)) ∧ cur.toList.take (3 * 7) = cellsE [rx, ry, rz] ∧ 21 ≤ cur.size
  ord : L 9 = true → L 7 = true
  ord7 : L 7 = true → L 1 = true
  vlt : V < w6.heap.size
section
variable {V b8 : Nat} {w6 : World} {rx ry rz : R7} {L : Nat → Bool} {a' : Act} {w' w'' : World}
theorem RA.start (a : Act) (hVn : w6.heap[V]? = some (.cells #[.int .i64 25, .bool false, .int .i64 0, .string ⟨#[]⟩, .string ⟨#[]⟩, .string ⟨#[]⟩, .slice (some ⟨b8, 0, none⟩) 2 2] 39 (0, 0))) (hbn : w6.heap[b8]? = some (.cells #[.int .i64 rx.k, .bool rx.b, .int .i64 rx.n, .string rx.s, .string rx.t, .string rx.i, .slice rx.lo rx.ll rx.lc, .int .i64 ry.k, .bool ry.b, .int .i64 ry.n, .string ry.s, .string ry.t, .string ry.i, .slice ry.lo ry.ll ry.lc] 39 (0, 0))) : RA V b8 w6 rx ry rz (fun _ => false) a w6.drew := ⟨(Below.refl _ _).drew, Nat.le_refl _, fun _ => hVn, fun _ => hbn, fun h => (by cases h), fun h => (by cases h), fun h => (by cases h), (Array.getElem?_eq_some_iff.1 hVn).1⟩
theorem RA.not9 (h : RA V b8 w6 rx ry rz L a' w') (hL : L 1 = false) : L 9 = false := by
  cases h9 : L 9
  · rfl
  · have := h.ord7 (h.ord h9)
    rw [hL] at this
    cases this
theorem RA.step (h : RA V b8 w6 rx ry rz L a' w') (hb : Below w'.heap.size w' w'') (i d : Nat) (v : Value) (h7 : i ≠ 7) (h9 : i ≠ 9) : RA V b8 w6 rx ry rz (fun j => decide (j = i) || L j) (a'.put (some d) v) w'' := by
  have e7 : (decide (7 = i) || L 7) = L 7 := by simp [Ne.symm h7]
  have e9 : (decide (9 = i) || L 9) = L 9 := by simp [Ne.symm h9]
  have hs := h.size
  have hv := h.vlt
  refine ⟨h.below.trans (hb.mono (by omega)), Nat.le_trans hs hb.size, ?_, ?_, ?_, ?_, ?_, hv⟩ <;> simp only [e7, e9]
  · exact fun x => kept_of_below hb (h.v0 x)
  · exact fun x => kept_of_below hb (h.row x)
  · intro x
    obtain ⟨g, cap, cur, q1, q2, q3, q4⟩ := h.full x
    exact ⟨g, cap, cur, kept_of_below hb q1, kept_of_below hb q2, q3, q4⟩
  · exact h.ord
  · intro x
    rw [h.ord7 x]
    simp
theorem RA.app {cap : Nat} (h : RA V b8 w6 rx ry rz L a' w') (hL7 : L 7 = false) (hL1 : L 1 = true) (hb8 : V < b8) (hg : w'.grownBy w'' (Value.slice (some ⟨b8, 0, none⟩) 2 cap).ownBlock) (d : Nat) (v : Value) : RA V b8 w6 rx ry rz (fun j => decide (j = 7) || L j) (a'.put (some d) v) w'' := by
  have hs := h.size
  have hv := h.vlt
  have e9 : (decide (9 = 7) || L 9) = L 9 := by simp
  have n9 : L 9 = true → False := fun x => by
    have := h.ord x
    rw [hL7] at this
    cases this
  have keep : ∀ b, b < w'.heap.size → b ≠ b8 → w''.heap[b]? = w'.heap[b]? := fun b hl hn => hg.block b hl (fun e => hn (Option.some.inj e))
  refine ⟨⟨hg.os.trans h.below.os, hg.tape.trans h.below.tape, hg.output.trans h.below.output, Nat.le_trans hs hg.size, fun b hl => (keep b (by omega) (by omega)).trans (h.below.block b hl)⟩, Nat.le_trans hs hg.size, fun x => ?_, fun x => ?_, fun x => (n9 (e9.symm.trans x)).elim, fun x => (n9 (e9.symm.trans x)).elim, fun _ => by simp [hL1], hv⟩
  · exact (keep V (by omega) (by omega)).trans (h.v0 (e9.symm.trans x))
  · simp at x
theorem RA.put {g cap : Nat} {cur : Array Value} {v : Value} (h : RA V b8 w6 rx ry rz L a' w') (q1 : (w'.setCell ⟨V, 6, none⟩ v).heap[V]? = some (.cells #[.int .i64 25, .bool false, .int .i64 0, .string ⟨#[]⟩, .string ⟨#[]⟩, .string ⟨#[]⟩, .slice (some ⟨g, 0, none⟩) 3 cap] 39 (0, 0))) (q2 : (w'.setCell ⟨V, 6, none⟩ v).heap[g]? = some (.cells cur 39 (0, 0))) (q3 : cur.toList.take (3 * 7) = cellsE [rx, ry, rz]) (q4 : 21 ≤ cur.size) (h7 : L 7 = true) : RA V b8 w6 rx ry rz (fun j => decide (j = 9) || L j) a' (w'.setCell ⟨V, 6, none⟩ v) := by
  have hs := h.size
  refine ⟨h.below.setCell (p := ⟨V, 6, none⟩) (Nat.le_refl V) v, by simpa using hs, fun x => ?_, fun x => ?_, fun _ => ⟨g, cap, cur, q1, q2, q3, q4⟩, fun _ => by simp [h7], fun x => ?_, h.vlt⟩
  · simp at x
  · simp [h7] at x
  · have := h.ord7 h7
    simp [this]
end
/-- What stands behind the choice of the operation. -/
def OpsR (b : Nat) (w5 : World) (s12 s13 : Value) (wc : World) : Prop := ∃ (ok : Bool) (want : Int) (q : R7) (nd : Ex) (T : T3), s12 = .int .i64 want ∧ s13 = .bool ok ∧ wc.heap[b + 4]? = some (.cells #[.int .i64 q.k, .bool q.b, .int .i64 q.n, .string q.s, .string q.t, .string q.i, .slice q.lo q.ll q.lc] 39 (0, 0)) ∧ IsE wc PT q nd ∧ depE nd ≤ 10 ∧ slE nd = true ∧ typE opS ⟨#[65]⟩ ⟨#[65]⟩ nd = (if ok then (T, 0) else (zT, 16)) ∧ (ok = true → T.k = want) ∧ Below (b + 4) w5 wc
set_option maxHeartbeats 16000000 in
set_option maxRecDepth 1000000 in
theorem ops_walk (o_ a_ c_ d_ : Int) (w : World) : Calls Try.prog 7 #[.int .i64 o_, .int .i64 a_, .int .i64 c_, .int .i64 d_] w fun e w' => e = .returned (.bool true) ∧ Below w.heap.size w w' := by
  have C0 := known11_any w
  obtain ⟨x, hx⟩ : ∃ x : Nat, (x : Int) = a_ % 6 := ⟨(a_ % 6).toNat, by omega⟩
  obtain ⟨y, hy⟩ : ∃ y : Nat, (y : Int) = c_ % 6 := ⟨(c_ % 6).toNat, by omega⟩
  obtain ⟨z, hz⟩ : ∃ z : Nat, (z : Int) = d_ % 6 := ⟨(d_ % 6).toNat, by omega⟩
  obtain ⟨m, hm⟩ : ∃ m : Nat, (m : Int) = o_ % 17 := ⟨(o_ % 17).toNat, by omega⟩
  have CA := fun w' => within11_any a_ 6 (by decide) (by decide) w'
  have CB := fun w' => within11_any c_ 6 (by decide) (by decide) w'
  have CC := fun w' => within11_any d_ 6 (by decide) (by decide) w'
  have CO := fun w' => within11_any o_ 17 (by decide) (by decide) w'
  rw [← hx] at CA
  rw [← hy] at CB
  rw [← hz] at CC
  rw [← hm] at CO
  have hx6 : x < 6 := by omega
  have hy6 : y < 6 := by omega
  have hz6 : z < 6 := by omega
  have hm17 : m < 17 := by omega
  clear hx hy hz hm
  have x0 : (0 : Int) ≤ (x : Int) := by omega
  have x1 : (x : Int) < 6 := by omega
  have y0 : (0 : Int) ≤ (y : Int) := by omega
  have y1 : (y : Int) < 6 := by omega
  have z0 : (0 : Int) ≤ (z : Int) := by omega
  have z1 : (z : Int) < 6 := by omega
  obtain ⟨op, hopm⟩ : ∃ op : Int, op = 9 + (m : Int) := ⟨_, rfl⟩
  have wr9 : IntKind.i64.wrap (9 + (m : Int)) = op := by
    rw [hopm]
    simp [IntKind.wrap, IntKind.signed, IntKind.bits]
    omega
  have hop : op = 9 ∨ op = 10 ∨ op = 11 ∨ op = 12 ∨ op = 13 ∨ op = 14 ∨ op = 15 ∨ op = 16 ∨ op = 17 ∨ op = 18 ∨ op = 19 ∨ op = 20 ∨ op = 21 ∨ op = 22 ∨ op = 23 ∨ op = 24 ∨ op = 25 := by omega
  clear hopm
  go_enter Try.func7, Try.ntmps7
  go_wp2_with fail
  refine C0.mono ?_
  clear C0
  rintro e9 w2 ⟨rfl, b02⟩
  obtain ⟨bX, zX, k1, k2, k3, k4⟩ := alloc4 w2 (.cells #[.int .i64 2, .bool false, .int .i64 0, .string ⟨#[]⟩, .string ⟨#[]⟩, .string ⟨#[]⟩, .slice none 0 0] 39) (.cells #[.int .i64 5, .bool false, .int .i64 0, .string ⟨#[114, 101, 115, 111, 117, 114, 99, 101]⟩, .string ⟨#[]⟩, .string ⟨#[]⟩, .slice none 0 0] 39) (.cells #[.int .i64 1, .bool false, .int .i64 0, .string ⟨#[]⟩, .string ⟨#[]⟩, .string ⟨#[]⟩, .slice none 0 0, .int .i64 2, .bool false, .int .i64 0, .string ⟨#[]⟩, .string ⟨#[]⟩, .string ⟨#[]⟩, .slice none 0 0, .int .i64 3, .bool false, .int .i64 0, .string ⟨#[]⟩, .string ⟨#[]⟩, .string ⟨#[]⟩, .slice none 0 0, .int .i64 5, .bool false, .int .i64 0, .string ⟨#[112, 114, 105, 110, 99, 105, 112, 97, 108]⟩, .string ⟨#[]⟩, .string ⟨#[]⟩, .slice none 0 0, .int .i64 6, .bool false, .int .i64 0, .string ⟨#[]⟩, .string ⟨#[]⟩, .string ⟨#[]⟩, .slice (some ⟨w2.heap.size, 0, none⟩) 1 1, .int .i64 6, .bool false, .int .i64 0, .string ⟨#[]⟩, .string ⟨#[]⟩, .string ⟨#[]⟩, .slice (some ⟨w2.heap.size + 1, 0, none⟩) 1 1] 39) (.cells #[.int .i64 1, .int .i64 2, .int .i64 3, .int .i64 4, .int .i64 5, .int .i64 5] 3)
  have b04 := b02.trans (bX.mono b02.size)
  have zz : (((((w2.alloc (.cells #[.int .i64 2, .bool false, .int .i64 0, .string ⟨#[]⟩, .string ⟨#[]⟩, .string ⟨#[]⟩, .slice none 0 0] 39)).alloc (.cells #[.int .i64 5, .bool false, .int .i64 0, .string ⟨#[114, 101, 115, 111, 117, 114, 99, 101]⟩, .string ⟨#[]⟩, .string ⟨#[]⟩, .slice none 0 0] 39)).alloc (.cells #[.int .i64 1, .bool false, .int .i64 0, .string ⟨#[]⟩, .string ⟨#[]⟩, .string ⟨#[]⟩, .slice none 0 0, .int .i64 2, .bool false, .int .i64 0, .string ⟨#[]⟩, .string ⟨#[]⟩, .string ⟨#[]⟩, .slice none 0 0, .int .i64 3, .bool false, .int .i64 0, .string ⟨#[]⟩, .string ⟨#[]⟩, .string ⟨#[]⟩, .slice none 0 0, .int .i64 5, .bool false, .int .i64 0, .string ⟨#[112, 114, 105, 110, 99, 105, 112, 97, 108]⟩, .string ⟨#[]⟩, .string ⟨#[]⟩, .slice none 0 0, .int .i64 6, .bool false, .int .i64 0, .string ⟨#[]⟩, .string ⟨#[]⟩, .string ⟨#[]⟩, .slice (some ⟨w2.heap.size, 0, none⟩) 1 1, .int .i64 6, .bool false, .int .i64 0, .string ⟨#[]⟩, .string ⟨#[]⟩, .string ⟨#[]⟩, .slice (some ⟨w2.heap.size + 1, 0, none⟩) 1 1] 39)).alloc (.cells #[.int .i64 1, .int .i64 2, .int .i64 3, .int .i64 4, .int .i64 5, .int .i64 5] 3)).alloc (.cells #[.int .i64 op, .bool false, .int .i64 0, .string ⟨#[]⟩, .string ⟨#[]⟩, .string ⟨#[]⟩, .slice none 0 0] 39)).heap.size = w2.heap.size + 5 := by simp
  have zz4 : ((((w2.alloc (.cells #[.int .i64 2, .bool false, .int .i64 0, .string ⟨#[]⟩, .string ⟨#[]⟩, .string ⟨#[]⟩, .slice none 0 0] 39)).alloc (.cells #[.int .i64 5, .bool false, .int .i64 0, .string ⟨#[114, 101, 115, 111, 117, 114, 99, 101]⟩, .string ⟨#[]⟩, .string ⟨#[]⟩, .slice none 0 0] 39)).alloc (.cells #[.int .i64 1, .bool false, .int .i64 0, .string ⟨#[]⟩, .string ⟨#[]⟩, .string ⟨#[]⟩, .slice none 0 0, .int .i64 2, .bool false, .int .i64 0, .string ⟨#[]⟩, .string ⟨#[]⟩, .string ⟨#[]⟩, .slice none 0 0, .int .i64 3, .bool false, .int .i64 0, .string ⟨#[]⟩, .string ⟨#[]⟩, .string ⟨#[]⟩, .slice none 0 0, .int .i64 5, .bool false, .int .i64 0, .string ⟨#[112, 114, 105, 110, 99, 105, 112, 97, 108]⟩, .string ⟨#[]⟩, .string ⟨#[]⟩, .slice none 0 0, .int .i64 6, .bool false, .int .i64 0, .string ⟨#[]⟩, .string ⟨#[]⟩, .string ⟨#[]⟩, .slice (some ⟨w2.heap.size, 0, none⟩) 1 1, .int .i64 6, .bool false, .int .i64 0, .string ⟨#[]⟩, .string ⟨#[]⟩, .string ⟨#[]⟩, .slice (some ⟨w2.heap.size + 1, 0, none⟩) 1 1] 39)).alloc (.cells #[.int .i64 1, .int .i64 2, .int .i64 3, .int .i64 4, .int .i64 5, .int .i64 5] 3)).heap.size = w2.heap.size + 4 := by simp
  have bV := blw1 ((((w2.alloc (.cells #[.int .i64 2, .bool false, .int .i64 0, .string ⟨#[]⟩, .string ⟨#[]⟩, .string ⟨#[]⟩, .slice none 0 0] 39)).alloc (.cells #[.int .i64 5, .bool false, .int .i64 0, .string ⟨#[114, 101, 115, 111, 117, 114, 99, 101]⟩, .string ⟨#[]⟩, .string ⟨#[]⟩, .slice none 0 0] 39)).alloc (.cells #[.int .i64 1, .bool false, .int .i64 0, .string ⟨#[]⟩, .string ⟨#[]⟩, .string ⟨#[]⟩, .slice none 0 0, .int .i64 2, .bool false, .int .i64 0, .string ⟨#[]⟩, .string ⟨#[]⟩, .string ⟨#[]⟩, .slice none 0 0, .int .i64 3, .bool false, .int .i64 0, .string ⟨#[]⟩, .string ⟨#[]⟩, .string ⟨#[]⟩, .slice none 0 0, .int .i64 5, .bool false, .int .i64 0, .string ⟨#[112, 114, 105, 110, 99, 105, 112, 97, 108]⟩, .string ⟨#[]⟩, .string ⟨#[]⟩, .slice none 0 0, .int .i64 6, .bool false, .int .i64 0, .string ⟨#[]⟩, .string ⟨#[]⟩, .string ⟨#[]⟩, .slice (some ⟨w2.heap.size, 0, none⟩) 1 1, .int .i64 6, .bool false, .int .i64 0, .string ⟨#[]⟩, .string ⟨#[]⟩, .string ⟨#[]⟩, .slice (some ⟨w2.heap.size + 1, 0, none⟩) 1 1] 39)).alloc (.cells #[.int .i64 1, .int .i64 2, .int .i64 3, .int .i64 4, .int .i64 5, .int .i64 5] 3)) (.cells #[.int .i64 op, .bool false, .int .i64 0, .string ⟨#[]⟩, .string ⟨#[]⟩, .string ⟨#[]⟩, .slice none 0 0] 39)
  have hV := alloc_heap ((((w2.alloc (.cells #[.int .i64 2, .bool false, .int .i64 0, .string ⟨#[]⟩, .string ⟨#[]⟩, .string ⟨#[]⟩, .slice none 0 0] 39)).alloc (.cells #[.int .i64 5, .bool false, .int .i64 0, .string ⟨#[114, 101, 115, 111, 117, 114, 99, 101]⟩, .string ⟨#[]⟩, .string ⟨#[]⟩, .slice none 0 0] 39)).alloc (.cells #[.int .i64 1, .bool false, .int .i64 0, .string ⟨#[]⟩, .string ⟨#[]⟩, .string ⟨#[]⟩, .slice none 0 0, .int .i64 2, .bool false, .int .i64 0, .string ⟨#[]⟩, .string ⟨#[]⟩, .string ⟨#[]⟩, .slice none 0 0, .int .i64 3, .bool false, .int .i64 0, .string ⟨#[]⟩, .string ⟨#[]⟩, .string ⟨#[]⟩, .slice none 0 0, .int .i64 5, .bool false, .int .i64 0, .string ⟨#[112, 114, 105, 110, 99, 105, 112, 97, 108]⟩, .string ⟨#[]⟩, .string ⟨#[]⟩, .slice none 0 0, .int .i64 6, .bool false, .int .i64 0, .string ⟨#[]⟩, .string ⟨#[]⟩, .string ⟨#[]⟩, .slice (some ⟨w2.heap.size, 0, none⟩) 1 1, .int .i64 6, .bool false, .int .i64 0, .string ⟨#[]⟩, .string ⟨#[]⟩, .string ⟨#[]⟩, .slice (some ⟨w2.heap.size + 1, 0, none⟩) 1 1] 39)).alloc (.cells #[.int .i64 1, .int .i64 2, .int .i64 3, .int .i64 4, .int .i64 5, .int .i64 5] 3)) (.cells #[.int .i64 op, .bool false, .int .i64 0, .string ⟨#[]⟩, .string ⟨#[]⟩, .string ⟨#[]⟩, .slice none 0 0] 39)
  rw [zz4] at hV
  have k1 := kept_of_below bV k1
  have k2 := kept_of_below bV k2
  have k3 := kept_of_below bV k3
  have k4 := kept_of_below bV k4
  have b04 := b04.trans (bV.mono b04.size)
  go_wp2_with fail
  refine (CA _).mono ?_
  rintro e9 w9 ⟨rfl, hw9⟩
  subst hw9
  go_wp2_with fail
  refine (CB _).mono ?_
  rintro e9 w9 ⟨rfl, hw9⟩
  subst hw9
  go_wp2_with fail
  refine (CC _).mono ?_
  rintro e9 w9 ⟨rfl, hw9⟩
  subst hw9
  go_wp2_with fail
  refine (CO _).mono ?_
  rintro e9 w9 ⟨rfl, hw9⟩
  subst hw9
  clear CA CB CC CO bX zX bV zz4
  have hV5le : w2.heap.size + 4 ≤ (((((w2.alloc (.cells #[.int .i64 2, .bool false, .int .i64 0, .string ⟨#[]⟩, .string ⟨#[]⟩, .string ⟨#[]⟩, .slice none 0 0] 39)).alloc (.cells #[.int .i64 5, .bool false, .int .i64 0, .string ⟨#[114, 101, 115, 111, 117, 114, 99, 101]⟩, .string ⟨#[]⟩, .string ⟨#[]⟩, .slice none 0 0] 39)).alloc (.cells #[.int .i64 1, .bool false, .int .i64 0, .string ⟨#[]⟩, .string ⟨#[]⟩, .string ⟨#[]⟩, .slice none 0 0, .int .i64 2, .bool false, .int .i64 0, .string ⟨#[]⟩, .string ⟨#[]⟩, .string ⟨#[]⟩, .slice none 0 0, .int .i64 3, .bool false, .int .i64 0, .string ⟨#[]⟩, .string ⟨#[]⟩, .string ⟨#[]⟩, .slice none 0 0, .int .i64 5, .bool false, .int .i64 0, .string ⟨#[112, 114, 105, 110, 99, 105, 112, 97, 108]⟩, .string ⟨#[]⟩, .string ⟨#[]⟩, .slice none 0 0, .int .i64 6, .bool false, .int .i64 0, .string ⟨#[]⟩, .string ⟨#[]⟩, .string ⟨#[]⟩, .slice (some ⟨w2.heap.size, 0, none⟩) 1 1, .int .i64 6, .bool false, .int .i64 0, .string ⟨#[]⟩, .string ⟨#[]⟩, .string ⟨#[]⟩, .slice (some ⟨w2.heap.size + 1, 0, none⟩) 1 1] 39)).alloc (.cells #[.int .i64 1, .int .i64 2, .int .i64 3, .int .i64 4, .int .i64 5, .int .i64 5] 3)).alloc (.cells #[.int .i64 op, .bool false, .int .i64 0, .string ⟨#[]⟩, .string ⟨#[]⟩, .string ⟨#[]⟩, .slice none 0 0] 39)).heap.size := by rw [zz]; omega
  clear zz
  go_upto_region 8 with fail
  generalize ((((w2.alloc _).alloc _).alloc _).alloc _).alloc _ = w5 at *
  have hBt : w2.heap.size + 2 < w5.heap.size := by omega
  have hat := at7_block [⟨1, false, 0, ⟨#[]⟩, ⟨#[]⟩, ⟨#[]⟩, none, 0, 0⟩, ⟨2, false, 0, ⟨#[]⟩, ⟨#[]⟩, ⟨#[]⟩, none, 0, 0⟩, ⟨3, false, 0, ⟨#[]⟩, ⟨#[]⟩, ⟨#[]⟩, none, 0, 0⟩, ⟨5, false, 0, ⟨#[112, 114, 105, 110, 99, 105, 112, 97, 108]⟩, ⟨#[]⟩, ⟨#[]⟩, none, 0, 0⟩, ⟨6, false, 0, ⟨#[]⟩, ⟨#[]⟩, ⟨#[]⟩, some ⟨w2.heap.size, 0, none⟩, 1, 1⟩, ⟨6, false, 0, ⟨#[]⟩, ⟨#[]⟩, ⟨#[]⟩, some ⟨w2.heap.size + 1, 0, none⟩, 1, 1⟩] k3 rfl
  obtain ⟨rs, hrs⟩ : ∃ rs : List R7, rs = [⟨1, false, 0, ⟨#[]⟩, ⟨#[]⟩, ⟨#[]⟩, none, 0, 0⟩, ⟨2, false, 0, ⟨#[]⟩, ⟨#[]⟩, ⟨#[]⟩, none, 0, 0⟩, ⟨3, false, 0, ⟨#[]⟩, ⟨#[]⟩, ⟨#[]⟩, none, 0, 0⟩, ⟨5, false, 0, ⟨#[112, 114, 105, 110, 99, 105, 112, 97, 108]⟩, ⟨#[]⟩, ⟨#[]⟩, none, 0, 0⟩, ⟨6, false, 0, ⟨#[]⟩, ⟨#[]⟩, ⟨#[]⟩, some ⟨w2.heap.size, 0, none⟩, 1, 1⟩, ⟨6, false, 0, ⟨#[]⟩, ⟨#[]⟩, ⟨#[]⟩, some ⟨w2.heap.size + 1, 0, none⟩, 1, 1⟩] := ⟨_, rfl⟩
  rw [← hrs] at hat
  have hl6 : rs.length = 6 := by rw [hrs]; rfl
  have hl6x : x < ([⟨1, false, 0, ⟨#[]⟩, ⟨#[]⟩, ⟨#[]⟩, none, 0, 0⟩, ⟨2, false, 0, ⟨#[]⟩, ⟨#[]⟩, ⟨#[]⟩, none, 0, 0⟩, ⟨3, false, 0, ⟨#[]⟩, ⟨#[]⟩, ⟨#[]⟩, none, 0, 0⟩, ⟨5, false, 0, ⟨#[112, 114, 105, 110, 99, 105, 112, 97, 108]⟩, ⟨#[]⟩, ⟨#[]⟩, none, 0, 0⟩, ⟨6, false, 0, ⟨#[]⟩, ⟨#[]⟩, ⟨#[]⟩, some ⟨w2.heap.size, 0, none⟩, 1, 1⟩, ⟨6, false, 0, ⟨#[]⟩, ⟨#[]⟩, ⟨#[]⟩, some ⟨w2.heap.size + 1, 0, none⟩, 1, 1⟩] : List R7).length := hx6
  have hl6y : y < ([⟨1, false, 0, ⟨#[]⟩, ⟨#[]⟩, ⟨#[]⟩, none, 0, 0⟩, ⟨2, false, 0, ⟨#[]⟩, ⟨#[]⟩, ⟨#[]⟩, none, 0, 0⟩, ⟨3, false, 0, ⟨#[]⟩, ⟨#[]⟩, ⟨#[]⟩, none, 0, 0⟩, ⟨5, false, 0, ⟨#[112, 114, 105, 110, 99, 105, 112, 97, 108]⟩, ⟨#[]⟩, ⟨#[]⟩, none, 0, 0⟩, ⟨6, false, 0, ⟨#[]⟩, ⟨#[]⟩, ⟨#[]⟩, some ⟨w2.heap.size, 0, none⟩, 1, 1⟩, ⟨6, false, 0, ⟨#[]⟩, ⟨#[]⟩, ⟨#[]⟩, some ⟨w2.heap.size + 1, 0, none⟩, 1, 1⟩] : List R7).length := hy6
  have hl6z : z < ([⟨1, false, 0, ⟨#[]⟩, ⟨#[]⟩, ⟨#[]⟩, none, 0, 0⟩, ⟨2, false, 0, ⟨#[]⟩, ⟨#[]⟩, ⟨#[]⟩, none, 0, 0⟩, ⟨3, false, 0, ⟨#[]⟩, ⟨#[]⟩, ⟨#[]⟩, none, 0, 0⟩, ⟨5, false, 0, ⟨#[112, 114, 105, 110, 99, 105, 112, 97, 108]⟩, ⟨#[]⟩, ⟨#[]⟩, none, 0, 0⟩, ⟨6, false, 0, ⟨#[]⟩, ⟨#[]⟩, ⟨#[]⟩, some ⟨w2.heap.size, 0, none⟩, 1, 1⟩, ⟨6, false, 0, ⟨#[]⟩, ⟨#[]⟩, ⟨#[]⟩, some ⟨w2.heap.size + 1, 0, none⟩, 1, 1⟩] : List R7).length := hz6
  obtain ⟨ax0, ax1, ax2, ax3, ax4, ax5, ax6⟩ := hat x (by omega)
  obtain ⟨ay0, ay1, ay2, ay3, ay4, ay5, ay6⟩ := hat y (by omega)
  obtain ⟨az0, az1, az2, az3, az4, az5, az6⟩ := hat z (by omega)
  obtain ⟨rx, hrx0⟩ : ∃ rx, rx = rs[x]'(by omega) := ⟨_, rfl⟩
  obtain ⟨ry, hry0⟩ : ∃ ry, ry = rs[y]'(by omega) := ⟨_, rfl⟩
  obtain ⟨rz, hrz0⟩ : ∃ rz, rz = rs[z]'(by omega) := ⟨_, rfl⟩
  rw [← hrx0] at ax0 ax1 ax2 ax3 ax4 ax5 ax6
  rw [← hry0] at ay0 ay1 ay2 ay3 ay4 ay5 ay6
  rw [← hrz0] at az0 az1 az2 az3 az4 az5 az6
  have Hrx := hide (show ([⟨1, false, 0, ⟨#[]⟩, ⟨#[]⟩, ⟨#[]⟩, none, 0, 0⟩, ⟨2, false, 0, ⟨#[]⟩, ⟨#[]⟩, ⟨#[]⟩, none, 0, 0⟩, ⟨3, false, 0, ⟨#[]⟩, ⟨#[]⟩, ⟨#[]⟩, none, 0, 0⟩, ⟨5, false, 0, ⟨#[112, 114, 105, 110, 99, 105, 112, 97, 108]⟩, ⟨#[]⟩, ⟨#[]⟩, none, 0, 0⟩, ⟨6, false, 0, ⟨#[]⟩, ⟨#[]⟩, ⟨#[]⟩, some ⟨w2.heap.size, 0, none⟩, 1, 1⟩, ⟨6, false, 0, ⟨#[]⟩, ⟨#[]⟩, ⟨#[]⟩, some ⟨w2.heap.size + 1, 0, none⟩, 1, 1⟩] : List R7)[x]'hl6x = rx by rw [hrx0]; congr 1; exact hrs.symm)
  have Hry := hide (show ([⟨1, false, 0, ⟨#[]⟩, ⟨#[]⟩, ⟨#[]⟩, none, 0, 0⟩, ⟨2, false, 0, ⟨#[]⟩, ⟨#[]⟩, ⟨#[]⟩, none, 0, 0⟩, ⟨3, false, 0, ⟨#[]⟩, ⟨#[]⟩, ⟨#[]⟩, none, 0, 0⟩, ⟨5, false, 0, ⟨#[112, 114, 105, 110, 99, 105, 112, 97, 108]⟩, ⟨#[]⟩, ⟨#[]⟩, none, 0, 0⟩, ⟨6, false, 0, ⟨#[]⟩, ⟨#[]⟩, ⟨#[]⟩, some ⟨w2.heap.size, 0, none⟩, 1, 1⟩, ⟨6, false, 0, ⟨#[]⟩, ⟨#[]⟩, ⟨#[]⟩, some ⟨w2.heap.size + 1, 0, none⟩, 1, 1⟩] : List R7)[y]'hl6y = ry by rw [hry0]; congr 1; exact hrs.symm)
  have Hrz := hide (show ([⟨1, false, 0, ⟨#[]⟩, ⟨#[]⟩, ⟨#[]⟩, none, 0, 0⟩, ⟨2, false, 0, ⟨#[]⟩, ⟨#[]⟩, ⟨#[]⟩, none, 0, 0⟩, ⟨3, false, 0, ⟨#[]⟩, ⟨#[]⟩, ⟨#[]⟩, none, 0, 0⟩, ⟨5, false, 0, ⟨#[112, 114, 105, 110, 99, 105, 112, 97, 108]⟩, ⟨#[]⟩, ⟨#[]⟩, none, 0, 0⟩, ⟨6, false, 0, ⟨#[]⟩, ⟨#[]⟩, ⟨#[]⟩, some ⟨w2.heap.size, 0, none⟩, 1, 1⟩, ⟨6, false, 0, ⟨#[]⟩, ⟨#[]⟩, ⟨#[]⟩, some ⟨w2.heap.size + 1, 0, none⟩, 1, 1⟩] : List R7)[z]'hl6z = rz by rw [hrz0]; congr 1; exact hrs.symm)
  clear hat hrx0 hry0 hrz0 hl6 hrs
  refine wp_specs_put 10 (SpS [.eq (.slice (some ⟨w2.heap.size + 2, 0, none⟩) 6 6), .eq (.int .i64 (x : Nat)), .eq (.pointer (some ⟨w2.heap.size + 2, x * 7, none⟩)), .eq (.agg #[.int .i64 rx.k, .bool rx.b, .int .i64 rx.n, .string rx.s, .string rx.t, .string rx.i, .slice rx.lo rx.ll rx.lc]), .eq (.slice (some ⟨w2.heap.size + 2, 0, none⟩) 6 6), .eq (.int .i64 (y : Nat)), .eq (.pointer (some ⟨w2.heap.size + 2, y * 7, none⟩)), .eq (.agg #[.int .i64 ry.k, .bool ry.b, .int .i64 ry.n, .string ry.s, .string ry.t, .string ry.i, .slice ry.lo ry.ll ry.lc]), .blk (w5.heap.size) (fun b => .slice (some ⟨b, 0, none⟩) 2 2) (.cells #[.int .i64 rx.k, .bool rx.b, .int .i64 rx.n, .string rx.s, .string rx.t, .string rx.i, .slice rx.lo rx.ll rx.lc, .int .i64 ry.k, .bool ry.b, .int .i64 ry.n, .string ry.s, .string ry.t, .string ry.i, .slice ry.lo ry.ll ry.lc] 39 (0, 0)), .eq (.pointer (some ⟨w2.heap.size + 4, 6, none⟩))]) (fun w' => Below w5.heap.size w5 w') (by kernel_rfl) (by kernel_rfl) (Below.refl _ w5).drew ?_ ?_
  · intro q o hq' ho a' w' hR hdep hslot K hK
    have ax0' := (hR.cell (p := ⟨w2.heap.size + 2, x * 7, none⟩) hBt).trans ax0
    have ax1' := (hR.cell (p := ⟨w2.heap.size + 2, x * 7 + 1, none⟩) hBt).trans ax1
    have ax2' := (hR.cell (p := ⟨w2.heap.size + 2, x * 7 + 2, none⟩) hBt).trans ax2
    have ax3' := (hR.cell (p := ⟨w2.heap.size + 2, x * 7 + 3, none⟩) hBt).trans ax3
    have ax4' := (hR.cell (p := ⟨w2.heap.size + 2, x * 7 + 4, none⟩) hBt).trans ax4
    have ax5' := (hR.cell (p := ⟨w2.heap.size + 2, x * 7 + 5, none⟩) hBt).trans ax5
    have ax6' := (hR.cell (p := ⟨w2.heap.size + 2, x * 7 + 6, none⟩) hBt).trans ax6
    have ay0' := (hR.cell (p := ⟨w2.heap.size + 2, y * 7, none⟩) hBt).trans ay0
    have ay1' := (hR.cell (p := ⟨w2.heap.size + 2, y * 7 + 1, none⟩) hBt).trans ay1
    have ay2' := (hR.cell (p := ⟨w2.heap.size + 2, y * 7 + 2, none⟩) hBt).trans ay2
    have ay3' := (hR.cell (p := ⟨w2.heap.size + 2, y * 7 + 3, none⟩) hBt).trans ay3
    have ay4' := (hR.cell (p := ⟨w2.heap.size + 2, y * 7 + 4, none⟩) hBt).trans ay4
    have ay5' := (hR.cell (p := ⟨w2.heap.size + 2, y * 7 + 5, none⟩) hBt).trans ay5
    have ay6' := (hR.cell (p := ⟨w2.heap.size + 2, y * 7 + 6, none⟩) hBt).trans ay6
    have hc : q = 0 ∨ q = 1 ∨ q = 2 ∨ q = 3 ∨ q = 4 ∨ q = 5 ∨ q = 6 ∨ q = 7 ∨ q = 8 ∨ q = 9 := by omega
    rcases hc with rfl | rfl | rfl | rfl | rfl | rfl | rfl | rfl | rfl | rfl
    · cases ho
      have e0 : a'.tmps.getD 9 undef = .slice (some ⟨w2.heap.size + 2, 0, none⟩) 6 6 := hslot 9 (by decide)
      clear ax0' ax1' ax2' ax3' ax4' ax5' ax6' ay0' ay1' ay2' ay3' ay4' ay5' ay6'
      unfold Oper.wp
      go_simp
      exact hK _ _ rfl hR (fun _ _ h => h)
    · cases ho
      have e0 : a'.tmps.getD 1 undef = .int .i64 (x : Nat) := hslot 1 (by decide)
      clear ax0' ax1' ax2' ax3' ax4' ax5' ax6' ay0' ay1' ay2' ay3' ay4' ay5' ay6'
      unfold Oper.wp
      go_simp
      exact hK _ _ rfl hR (fun _ _ h => h)
    · cases ho
      have e0 : a'.tmps.getD 42 undef = .slice (some ⟨w2.heap.size + 2, 0, none⟩) 6 6 := hdep 0 (by kernel_rfl)
      have e0' : a'.tmps[42]?.getD undef = .slice (some ⟨w2.heap.size + 2, 0, none⟩) 6 6 := by simpa using e0
      have e1 : a'.tmps.getD 43 undef = .int .i64 (x : Nat) := hdep 1 (by kernel_rfl)
      have e1' : a'.tmps[43]?.getD undef = .int .i64 (x : Nat) := by simpa using e1
      clear ax0' ax1' ax2' ax3' ax4' ax5' ax6' ay0' ay1' ay2' ay3' ay4' ay5' ay6'
      unfold Oper.wp
      go_simp
      exact hK _ _ rfl hR (fun _ _ h => h)
    · cases ho
      have e0 : a'.tmps.getD 44 undef = .pointer (some ⟨w2.heap.size + 2, x * 7, none⟩) := hdep 2 (by kernel_rfl)
      have e0' : a'.tmps[44]?.getD undef = .pointer (some ⟨w2.heap.size + 2, x * 7, none⟩) := by simpa using e0
      clear ay0' ay1' ay2' ay3' ay4' ay5' ay6'
      unfold Oper.wp
      go_simp
      exact hK _ _ rfl hR (fun _ _ h => h)
    · cases ho
      have e0 : a'.tmps.getD 9 undef = .slice (some ⟨w2.heap.size + 2, 0, none⟩) 6 6 := hslot 9 (by decide)
      clear ax0' ax1' ax2' ax3' ax4' ax5' ax6' ay0' ay1' ay2' ay3' ay4' ay5' ay6'
      unfold Oper.wp
      go_simp
      exact hK _ _ rfl hR (fun _ _ h => h)
    · cases ho
      have e0 : a'.tmps.getD 2 undef = .int .i64 (y : Nat) := hslot 2 (by decide)
      clear ax0' ax1' ax2' ax3' ax4' ax5' ax6' ay0' ay1' ay2' ay3' ay4' ay5' ay6'
      unfold Oper.wp
      go_simp
      exact hK _ _ rfl hR (fun _ _ h => h)
    · cases ho
      have e0 : a'.tmps.getD 46 undef = .slice (some ⟨w2.heap.size + 2, 0, none⟩) 6 6 := hdep 4 (by kernel_rfl)
      have e0' : a'.tmps[46]?.getD undef = .slice (some ⟨w2.heap.size + 2, 0, none⟩) 6 6 := by simpa using e0
      have e1 : a'.tmps.getD 47 undef = .int .i64 (y : Nat) := hdep 5 (by kernel_rfl)
      have e1' : a'.tmps[47]?.getD undef = .int .i64 (y : Nat) := by simpa using e1
      clear ax0' ax1' ax2' ax3' ax4' ax5' ax6' ay0' ay1' ay2' ay3' ay4' ay5' ay6'
      unfold Oper.wp
      go_simp
      exact hK _ _ rfl hR (fun _ _ h => h)
    · cases ho
      have e0 : a'.tmps.getD 48 undef = .pointer (some ⟨w2.heap.size + 2, y * 7, none⟩) := hdep 6 (by kernel_rfl)
      have e0' : a'.tmps[48]?.getD undef = .pointer (some ⟨w2.heap.size + 2, y * 7, none⟩) := by simpa using e0
      clear ax0' ax1' ax2' ax3' ax4' ax5' ax6'
      unfold Oper.wp
      go_simp
      exact hK _ _ rfl hR (fun _ _ h => h)
    · cases ho
      have e0 : a'.tmps.getD 45 undef = .agg #[.int .i64 rx.k, .bool rx.b, .int .i64 rx.n, .string rx.s, .string rx.t, .string rx.i, .slice rx.lo rx.ll rx.lc] := hdep 3 (by kernel_rfl)
      have e0' : a'.tmps[45]?.getD undef = .agg #[.int .i64 rx.k, .bool rx.b, .int .i64 rx.n, .string rx.s, .string rx.t, .string rx.i, .slice rx.lo rx.ll rx.lc] := by simpa using e0
      have e1 : a'.tmps.getD 49 undef = .agg #[.int .i64 ry.k, .bool ry.b, .int .i64 ry.n, .string ry.s, .string ry.t, .string ry.i, .slice ry.lo ry.ll ry.lc] := hdep 7 (by kernel_rfl)
      have e1' : a'.tmps[49]?.getD undef = .agg #[.int .i64 ry.k, .bool ry.b, .int .i64 ry.n, .string ry.s, .string ry.t, .string ry.i, .slice ry.lo ry.ll ry.lc] := by simpa using e1
      clear ax0' ax1' ax2' ax3' ax4' ax5' ax6' ay0' ay1' ay2' ay3' ay4' ay5' ay6'
      unfold Oper.wp
      go_simp
      exact hK _ _ ⟨w'.heap.size, hR.size, rfl, alloc_heap _ _⟩ (hR.alloc hR.size _) (SpS.up (blw1 _ _))
    · cases ho
      have e0 : a'.tmps.getD 11 undef = .pointer (some ⟨w2.heap.size + 4, 0, none⟩) := hslot 11 (by decide)
      clear ax0' ax1' ax2' ax3' ax4' ax5' ax6' ay0' ay1' ay2' ay3' ay4' ay5' ay6'
      unfold Oper.wp
      go_simp
      exact hK _ _ rfl hR (fun _ _ h => h)
  · intro v w' hR hall
    have f0 : v 0 = .slice (some ⟨w2.heap.size + 2, 0, none⟩) 6 6 := hall 0 (by decide)
    have f1 : v 1 = .int .i64 (x : Nat) := hall 1 (by decide)
    have f2 : v 2 = .pointer (some ⟨w2.heap.size + 2, x * 7, none⟩) := hall 2 (by decide)
    have f3 : v 3 = .agg #[.int .i64 rx.k, .bool rx.b, .int .i64 rx.n, .string rx.s, .string rx.t, .string rx.i, .slice rx.lo rx.ll rx.lc] := hall 3 (by decide)
    have f4 : v 4 = .slice (some ⟨w2.heap.size + 2, 0, none⟩) 6 6 := hall 4 (by decide)
    have f5 : v 5 = .int .i64 (y : Nat) := hall 5 (by decide)
    have f6 : v 6 = .pointer (some ⟨w2.heap.size + 2, y * 7, none⟩) := hall 6 (by decide)
    have f7 : v 7 = .agg #[.int .i64 ry.k, .bool ry.b, .int .i64 ry.n, .string ry.s, .string ry.t, .string ry.i, .slice ry.lo ry.ll ry.lc] := hall 7 (by decide)
    obtain ⟨b8, hB8, f8, ho8⟩ : (.blk (w5.heap.size) (fun b => .slice (some ⟨b, 0, none⟩) 2 2) (.cells #[.int .i64 rx.k, .bool rx.b, .int .i64 rx.n, .string rx.s, .string rx.t, .string rx.i, .slice rx.lo rx.ll rx.lc, .int .i64 ry.k, .bool ry.b, .int .i64 ry.n, .string ry.s, .string ry.t, .string ry.i, .slice ry.lo ry.ll ry.lc] 39 (0, 0)) : Sv).sp (v 8) w' := hall 8 (by decide)
    have f9 : v 9 = .pointer (some ⟨w2.heap.size + 4, 6, none⟩) := hall 9 (by decide)
    clear hall
    simp only [putAll, dstOf, List.getElem?_cons_zero, List.getElem?_cons_succ, Option.bind_some, List.drop_succ_cons, List.drop_zero, f0, f1, f2, f3, f4, f5, f6, f7, f8, f9]
    clear f0 f1 f2 f3 f4 f5 f6 f7 f8 f9
    simp only [Act.put, List.setIfInBounds_toArray, List.set_cons_succ, List.set_cons_zero]
    have hV8 := kept_of_below hR hV
    have z6 : w'.cell? ⟨w2.heap.size + 4, 6, none⟩ = some (.slice none 0 0) := by rw [Lib.cell_of_heap hV8]; rfl
    have z0_ : w'.cell? ⟨w2.heap.size + 4, 0, none⟩ = some (.int .i64 op) := by rw [Lib.cell_of_heap hV8]; rfl
    have zf : ∀ o, w'.frozen? ⟨w2.heap.size + 4, o, none⟩ = false := fun o => Lib.frozen_of_heap hV8 o
    have hbV : b8 ≠ w2.heap.size + 4 := ne_blocks ho8 hV8 (by simp)
    have HQ := hide (heap_setCell_same w' (w2.heap.size + 4) 6 _ _ (.slice (some ⟨b8, 0, none⟩) 2 2) hV8)
    have HK := hide ((Below.heap_setCell w' ⟨w2.heap.size + 4, 6, none⟩ (.slice (some ⟨b8, 0, none⟩) 2 2) b8 hbV).trans ho8)
    have HBw := hide ((hR.mono hV5le).setCell (p := ⟨w2.heap.size + 4, 6, none⟩) (Nat.le_refl (w2.heap.size + 4)) (.slice (some ⟨b8, 0, none⟩) 2 2))
    clear hV8 hbV ho8
    go_upto_block 0 with fail
    clear z6 z0_ zf
    have hVn := unhide HQ
    have hbn := unhide HK
    have b6 := unhide HBw
    clear HQ HK HBw
    generalize w'.setCell _ _ = w6 at *
    go_cut [12, 13] from 18 (fun s12 s13 wc => OpsR (w2.heap.size) w5 s12 s13 wc)
    case first =>
      have k1' := kept_of_mem b6 (by omega) k1
      have k2' := kept_of_mem b6 (by omega) k2
      have HAL := hide (all_th k1' k2')
      have v0 : w6.cell? ⟨w2.heap.size + 4, 0, none⟩ = some (.int .i64 op) := by rw [Lib.cell_of_heap hVn]; rfl
      have v6 : w6.cell? ⟨w2.heap.size + 4, 6, none⟩ = some (.slice (some ⟨b8, 0, none⟩) 2 2) := by rw [Lib.cell_of_heap hVn]; rfl
      have vf : ∀ o, w6.frozen? ⟨w2.heap.size + 4, o, none⟩ = false := fun o => Lib.frozen_of_heap hVn o
      rcases hop with rfl | rfl | rfl | rfl | rfl | rfl | rfl | rfl | rfl | rfl | rfl | rfl | rfl | rfl | rfl | rfl | rfl
      · as_aux_lemma =>
          by_cases hx4 : x = 4
          · have gx4 : ((x : Int) == 4) = true := by
              have : (x : Int) = 4 := by omega
              simpa using this
            have gx5 : ((x : Int) == 5) = false := by
              have : ¬ (x : Int) = 5 := by omega
              simpa using this
            by_cases hy1 : y = 1
            · have gy1 : ((y : Int) == 1) = true := by
                have : (y : Int) = 1 := by omega
                simpa using this
              go_wp2_with fail
              go_meet
              case rel =>
                refine ⟨true, 1, ⟨9, false, 0, ⟨#[]⟩, ⟨#[]⟩, ⟨#[]⟩, some ⟨b8, 0, none⟩, 2, 2⟩, .mk 9 false 0 [] [] [] [thT[x]'hx6, thT[y]'hy6], ⟨1, 0, ⟨#[]⟩⟩, rfl, rfl, hVn, ?_, ?_, ?_, ?_, fun _ => rfl, b6⟩
                · exact isE_node (s := []) (t := []) (i := []) rfl (isEs_block [rx, ry] _ hbn rfl (.cons (unhide Hrx ▸ (unhide HAL).get x hl6x hx6) (.cons (unhide Hry ▸ (unhide HAL).get y hl6y hy6) .nil)))
                · exact dep_two hx6 hy6
                · exact sl_two hx6 hy6
                · rw [typ_two hx6 hy6 (by decide)]
                  exact (tab9 x y hx6 hy6).trans (by simp [hx4, hy1])
            · have gy1 : ((y : Int) == 1) = false := by
                have : ¬ (y : Int) = 1 := by omega
                simpa using this
              go_wp2_with fail
              go_meet
              case rel =>
                refine ⟨false, 1, ⟨9, false, 0, ⟨#[]⟩, ⟨#[]⟩, ⟨#[]⟩, some ⟨b8, 0, none⟩, 2, 2⟩, .mk 9 false 0 [] [] [] [thT[x]'hx6, thT[y]'hy6], ⟨1, 0, ⟨#[]⟩⟩, rfl, rfl, hVn, ?_, ?_, ?_, ?_, fun _ => rfl, b6⟩
                · exact isE_node (s := []) (t := []) (i := []) rfl (isEs_block [rx, ry] _ hbn rfl (.cons (unhide Hrx ▸ (unhide HAL).get x hl6x hx6) (.cons (unhide Hry ▸ (unhide HAL).get y hl6y hy6) .nil)))
                · exact dep_two hx6 hy6
                · exact sl_two hx6 hy6
                · rw [typ_two hx6 hy6 (by decide)]
                  exact (tab9 x y hx6 hy6).trans (by simp [hx4, hy1])
          · have gx4 : ((x : Int) == 4) = false := by
              have : ¬ (x : Int) = 4 := by omega
              simpa using this
            by_cases hx5 : x = 5
            · have gx5 : ((x : Int) == 5) = true := by
                have : (x : Int) = 5 := by omega
                simpa using this
              by_cases hy3 : y = 3
              · have gy3 : ((y : Int) == 3) = true := by
                  have : (y : Int) = 3 := by omega
                  simpa using this
                go_wp2_with fail
                go_meet
                case rel =>
                  refine ⟨true, 1, ⟨9, false, 0, ⟨#[]⟩, ⟨#[]⟩, ⟨#[]⟩, some ⟨b8, 0, none⟩, 2, 2⟩, .mk 9 false 0 [] [] [] [thT[x]'hx6, thT[y]'hy6], ⟨1, 0, ⟨#[]⟩⟩, rfl, rfl, hVn, ?_, ?_, ?_, ?_, fun _ => rfl, b6⟩
                  · exact isE_node (s := []) (t := []) (i := []) rfl (isEs_block [rx, ry] _ hbn rfl (.cons (unhide Hrx ▸ (unhide HAL).get x hl6x hx6) (.cons (unhide Hry ▸ (unhide HAL).get y hl6y hy6) .nil)))
                  · exact dep_two hx6 hy6
                  · exact sl_two hx6 hy6
                  · rw [typ_two hx6 hy6 (by decide)]
                    exact (tab9 x y hx6 hy6).trans (by simp [hx5, hy3])
              · have gy3 : ((y : Int) == 3) = false := by
                  have : ¬ (y : Int) = 3 := by omega
                  simpa using this
                go_wp2_with fail
                go_meet
                case rel =>
                  refine ⟨false, 1, ⟨9, false, 0, ⟨#[]⟩, ⟨#[]⟩, ⟨#[]⟩, some ⟨b8, 0, none⟩, 2, 2⟩, .mk 9 false 0 [] [] [] [thT[x]'hx6, thT[y]'hy6], ⟨1, 0, ⟨#[]⟩⟩, rfl, rfl, hVn, ?_, ?_, ?_, ?_, fun _ => rfl, b6⟩
                  · exact isE_node (s := []) (t := []) (i := []) rfl (isEs_block [rx, ry] _ hbn rfl (.cons (unhide Hrx ▸ (unhide HAL).get x hl6x hx6) (.cons (unhide Hry ▸ (unhide HAL).get y hl6y hy6) .nil)))
                  · exact dep_two hx6 hy6
                  · exact sl_two hx6 hy6
                  · rw [typ_two hx6 hy6 (by decide)]
                    exact (tab9 x y hx6 hy6).trans (by simp [hx5, hy3])
            · have gx5 : ((x : Int) == 5) = false := by
                have : ¬ (x : Int) = 5 := by omega
                simpa using this
              go_wp2_with fail
              go_meet
              case rel =>
                refine ⟨false, 1, ⟨9, false, 0, ⟨#[]⟩, ⟨#[]⟩, ⟨#[]⟩, some ⟨b8, 0, none⟩, 2, 2⟩, .mk 9 false 0 [] [] [] [thT[x]'hx6, thT[y]'hy6], ⟨1, 0, ⟨#[]⟩⟩, rfl, rfl, hVn, ?_, ?_, ?_, ?_, fun _ => rfl, b6⟩
                · exact isE_node (s := []) (t := []) (i := []) rfl (isEs_block [rx, ry] _ hbn rfl (.cons (unhide Hrx ▸ (unhide HAL).get x hl6x hx6) (.cons (unhide Hry ▸ (unhide HAL).get y hl6y hy6) .nil)))
                · exact dep_two hx6 hy6
                · exact sl_two hx6 hy6
                · rw [typ_two hx6 hy6 (by decide)]
                  exact (tab9 x y hx6 hy6).trans (by simp [hx4, hx5])
      · as_aux_lemma =>
          have hbV : b8 ≠ w2.heap.size + 4 := ne_blocks hbn hVn (by simp)
          have HN1 := hide (heap_setCell_same w6 (w2.heap.size + 4) 6 _ _ (.slice (some ⟨b8, 0, none⟩) 1 2) hVn)
          have HK1 := hide ((Below.heap_setCell w6 ⟨w2.heap.size + 4, 6, none⟩ (.slice (some ⟨b8, 0, none⟩) 1 2) b8 hbV).trans hbn)
          have HB1 := hide (b6.setCell (p := ⟨w2.heap.size + 4, 6, none⟩) (Nat.le_refl (w2.heap.size + 4)) (.slice (some ⟨b8, 0, none⟩) 1 2))
          by_cases hx2 : x = 2
          · have gx2 : ((x : Int) == 2) = true := by
              have : (x : Int) = 2 := by omega
              simpa using this
            go_wp2_with fail
            go_meet
            case rel =>
              refine ⟨true, 1, ⟨10, false, 0, ⟨#[]⟩, ⟨#[]⟩, ⟨#[]⟩, some ⟨b8, 0, none⟩, 1, 2⟩, .mk 10 false 0 [] [] [] [thT[x]'hx6], ⟨1, 0, ⟨#[]⟩⟩, rfl, rfl, unhide HN1, ?_, ?_, ?_, ?_, fun _ => rfl, unhide HB1⟩
              · have k1s := kept_of_mem (unhide HB1) (by omega) k1
                have k2s := kept_of_mem (unhide HB1) (by omega) k2
                have HA2 := all_th k1s k2s
                exact isE_node (s := []) (t := []) (i := []) rfl (isEs_at (Array.getElem?_eq_some_iff.1 (unhide HK1)).1 [rx] _ 0 (fun i hi => by
                  have hi0 : i = 0 := by simpa using hi
                  subst hi0
                  exact at7_block [rx, ry] (unhide HK1) rfl 0 (by simp)) (.cons (unhide Hrx ▸ HA2.get x hl6x hx6) .nil))
              · exact dep_one hx6
              · exact sl_one hx6
              · rw [typ_one hx6 (by decide)]
                exact (tab10 x hx6).trans (by simp [hx2])
          · have gx2 : ((x : Int) == 2) = false := by
              have : ¬ (x : Int) = 2 := by omega
              simpa using this
            go_wp2_with fail
            go_meet
            case rel =>
              refine ⟨false, 1, ⟨10, false, 0, ⟨#[]⟩, ⟨#[]⟩, ⟨#[]⟩, some ⟨b8, 0, none⟩, 1, 2⟩, .mk 10 false 0 [] [] [] [thT[x]'hx6], ⟨1, 0, ⟨#[]⟩⟩, rfl, rfl, unhide HN1, ?_, ?_, ?_, ?_, fun _ => rfl, unhide HB1⟩
              · have k1s := kept_of_mem (unhide HB1) (by omega) k1
                have k2s := kept_of_mem (unhide HB1) (by omega) k2
                have HA2 := all_th k1s k2s
                exact isE_node (s := []) (t := []) (i := []) rfl (isEs_at (Array.getElem?_eq_some_iff.1 (unhide HK1)).1 [rx] _ 0 (fun i hi => by
                  have hi0 : i = 0 := by simpa using hi
                  subst hi0
                  exact at7_block [rx, ry] (unhide HK1) rfl 0 (by simp)) (.cons (unhide Hrx ▸ HA2.get x hl6x hx6) .nil))
              · exact dep_one hx6
              · exact sl_one hx6
              · rw [typ_one hx6 (by decide)]
                exact (tab10 x hx6).trans (by simp [hx2])
      · as_aux_lemma =>
          have hbV : b8 ≠ w2.heap.size + 4 := ne_blocks hbn hVn (by simp)
          have HN1 := hide (heap_setCell_same w6 (w2.heap.size + 4) 6 _ _ (.slice (some ⟨b8, 0, none⟩) 1 2) hVn)
          have HK1 := hide ((Below.heap_setCell w6 ⟨w2.heap.size + 4, 6, none⟩ (.slice (some ⟨b8, 0, none⟩) 1 2) b8 hbV).trans hbn)
          have HB1 := hide (b6.setCell (p := ⟨w2.heap.size + 4, 6, none⟩) (Nat.le_refl (w2.heap.size + 4)) (.slice (some ⟨b8, 0, none⟩) 1 2))
          by_cases hx0 : x = 0
          · have gx0 : ((x : Int) == 0) = true := by
              have : (x : Int) = 0 := by omega
              simpa using this
            go_wp2_with fail
            go_meet
            case rel =>
              refine ⟨true, 1, ⟨11, false, 0, ⟨#[]⟩, ⟨#[]⟩, ⟨#[]⟩, some ⟨b8, 0, none⟩, 1, 2⟩, .mk 11 false 0 [] [] [] [thT[x]'hx6], ⟨1, 0, ⟨#[]⟩⟩, rfl, rfl, unhide HN1, ?_, ?_, ?_, ?_, fun _ => rfl, unhide HB1⟩
              · have k1s := kept_of_mem (unhide HB1) (by omega) k1
                have k2s := kept_of_mem (unhide HB1) (by omega) k2
                have HA2 := all_th k1s k2s
                exact isE_node (s := []) (t := []) (i := []) rfl (isEs_at (Array.getElem?_eq_some_iff.1 (unhide HK1)).1 [rx] _ 0 (fun i hi => by
                  have hi0 : i = 0 := by simpa using hi
                  subst hi0
                  exact at7_block [rx, ry] (unhide HK1) rfl 0 (by simp)) (.cons (unhide Hrx ▸ HA2.get x hl6x hx6) .nil))
              · exact dep_one hx6
              · exact sl_one hx6
              · rw [typ_one hx6 (by decide)]
                exact (tab11 x hx6).trans (by simp [hx0])
          · have gx0 : ((x : Int) == 0) = false := by
              have : ¬ (x : Int) = 0 := by omega
              simpa using this
            go_wp2_with fail
            go_meet
            case rel =>
              refine ⟨false, 1, ⟨11, false, 0, ⟨#[]⟩, ⟨#[]⟩, ⟨#[]⟩, some ⟨b8, 0, none⟩, 1, 2⟩, .mk 11 false 0 [] [] [] [thT[x]'hx6], ⟨1, 0, ⟨#[]⟩⟩, rfl, rfl, unhide HN1, ?_, ?_, ?_, ?_, fun _ => rfl, unhide HB1⟩
              · have k1s := kept_of_mem (unhide HB1) (by omega) k1
                have k2s := kept_of_mem (unhide HB1) (by omega) k2
                have HA2 := all_th k1s k2s
                exact isE_node (s := []) (t := []) (i := []) rfl (isEs_at (Array.getElem?_eq_some_iff.1 (unhide HK1)).1 [rx] _ 0 (fun i hi => by
                  have hi0 : i = 0 := by simpa using hi
                  subst hi0
                  exact at7_block [rx, ry] (unhide HK1) rfl 0 (by simp)) (.cons (unhide Hrx ▸ HA2.get x hl6x hx6) .nil))
              · exact dep_one hx6
              · exact sl_one hx6
              · rw [typ_one hx6 (by decide)]
                exact (tab11 x hx6).trans (by simp [hx0])
      · as_aux_lemma =>
          have hbV : b8 ≠ w2.heap.size + 4 := ne_blocks hbn hVn (by simp)
          have HN1 := hide (heap_setCell_same w6 (w2.heap.size + 4) 6 _ _ (.slice (some ⟨b8, 0, none⟩) 1 2) hVn)
          have HK1 := hide ((Below.heap_setCell w6 ⟨w2.heap.size + 4, 6, none⟩ (.slice (some ⟨b8, 0, none⟩) 1 2) b8 hbV).trans hbn)
          have HB1 := hide (b6.setCell (p := ⟨w2.heap.size + 4, 6, none⟩) (Nat.le_refl (w2.heap.size + 4)) (.slice (some ⟨b8, 0, none⟩) 1 2))
          by_cases hx1 : x = 1
          · have gx1 : ((x : Int) == 1) = true := by
              have : (x : Int) = 1 := by omega
              simpa using this
            go_wp2_with fail
            go_meet
            case rel =>
              refine ⟨true, 2, ⟨12, false, 0, ⟨#[]⟩, ⟨#[]⟩, ⟨#[]⟩, some ⟨b8, 0, none⟩, 1, 2⟩, .mk 12 false 0 [] [] [] [thT[x]'hx6], ⟨2, 0, ⟨#[]⟩⟩, rfl, rfl, unhide HN1, ?_, ?_, ?_, ?_, fun _ => rfl, unhide HB1⟩
              · have k1s := kept_of_mem (unhide HB1) (by omega) k1
                have k2s := kept_of_mem (unhide HB1) (by omega) k2
                have HA2 := all_th k1s k2s
                exact isE_node (s := []) (t := []) (i := []) rfl (isEs_at (Array.getElem?_eq_some_iff.1 (unhide HK1)).1 [rx] _ 0 (fun i hi => by
                  have hi0 : i = 0 := by simpa using hi
                  subst hi0
                  exact at7_block [rx, ry] (unhide HK1) rfl 0 (by simp)) (.cons (unhide Hrx ▸ HA2.get x hl6x hx6) .nil))
              · exact dep_one hx6
              · exact sl_one hx6
              · rw [typ_one hx6 (by decide)]
                exact (tab12 x hx6).trans (by simp [hx1])
          · have gx1 : ((x : Int) == 1) = false := by
              have : ¬ (x : Int) = 1 := by omega
              simpa using this
            go_wp2_with fail
            go_meet
            case rel =>
              refine ⟨false, 2, ⟨12, false, 0, ⟨#[]⟩, ⟨#[]⟩, ⟨#[]⟩, some ⟨b8, 0, none⟩, 1, 2⟩, .mk 12 false 0 [] [] [] [thT[x]'hx6], ⟨2, 0, ⟨#[]⟩⟩, rfl, rfl, unhide HN1, ?_, ?_, ?_, ?_, fun _ => rfl, unhide HB1⟩
              · have k1s := kept_of_mem (unhide HB1) (by omega) k1
                have k2s := kept_of_mem (unhide HB1) (by omega) k2
                have HA2 := all_th k1s k2s
                exact isE_node (s := []) (t := []) (i := []) rfl (isEs_at (Array.getElem?_eq_some_iff.1 (unhide HK1)).1 [rx] _ 0 (fun i hi => by
                  have hi0 : i = 0 := by simpa using hi
                  subst hi0
                  exact at7_block [rx, ry] (unhide HK1) rfl 0 (by simp)) (.cons (unhide Hrx ▸ HA2.get x hl6x hx6) .nil))
              · exact dep_one hx6
              · exact sl_one hx6
              · rw [typ_one hx6 (by decide)]
                exact (tab12 x hx6).trans (by simp [hx1])
      · as_aux_lemma =>
          by_cases hx1 : x = 1
          · have gx1 : ((x : Int) == 1) = true := by
              have : (x : Int) = 1 := by omega
              simpa using this
            by_cases hy1 : y = 1
            · have gy1 : ((y : Int) == 1) = true := by
                have : (y : Int) = 1 := by omega
                simpa using this
              go_wp2_with fail
              go_meet
              case rel =>
                refine ⟨true, 2, ⟨13, false, 0, ⟨#[]⟩, ⟨#[]⟩, ⟨#[]⟩, some ⟨b8, 0, none⟩, 2, 2⟩, .mk 13 false 0 [] [] [] [thT[x]'hx6, thT[y]'hy6], ⟨2, 0, ⟨#[]⟩⟩, rfl, rfl, hVn, ?_, ?_, ?_, ?_, fun _ => rfl, b6⟩
                · exact isE_node (s := []) (t := []) (i := []) rfl (isEs_block [rx, ry] _ hbn rfl (.cons (unhide Hrx ▸ (unhide HAL).get x hl6x hx6) (.cons (unhide Hry ▸ (unhide HAL).get y hl6y hy6) .nil)))
                · exact dep_two hx6 hy6
                · exact sl_two hx6 hy6
                · rw [typ_two hx6 hy6 (by decide)]
                  exact (tab13 x y hx6 hy6).trans (by simp [hx1, hy1])
            · have gy1 : ((y : Int) == 1) = false := by
                have : ¬ (y : Int) = 1 := by omega
                simpa using this
              go_wp2_with fail
              go_meet
              case rel =>
                refine ⟨false, 2, ⟨13, false, 0, ⟨#[]⟩, ⟨#[]⟩, ⟨#[]⟩, some ⟨b8, 0, none⟩, 2, 2⟩, .mk 13 false 0 [] [] [] [thT[x]'hx6, thT[y]'hy6], ⟨2, 0, ⟨#[]⟩⟩, rfl, rfl, hVn, ?_, ?_, ?_, ?_, fun _ => rfl, b6⟩
                · exact isE_node (s := []) (t := []) (i := []) rfl (isEs_block [rx, ry] _ hbn rfl (.cons (unhide Hrx ▸ (unhide HAL).get x hl6x hx6) (.cons (unhide Hry ▸ (unhide HAL).get y hl6y hy6) .nil)))
                · exact dep_two hx6 hy6
                · exact sl_two hx6 hy6
                · rw [typ_two hx6 hy6 (by decide)]
                  exact (tab13 x y hx6 hy6).trans (by simp [hx1, hy1])
          · have gx1 : ((x : Int) == 1) = false := by
              have : ¬ (x : Int) = 1 := by omega
              simpa using this
            go_wp2_with fail
            go_meet
            case rel =>
              refine ⟨false, 2, ⟨13, false, 0, ⟨#[]⟩, ⟨#[]⟩, ⟨#[]⟩, some ⟨b8, 0, none⟩, 2, 2⟩, .mk 13 false 0 [] [] [] [thT[x]'hx6, thT[y]'hy6], ⟨2, 0, ⟨#[]⟩⟩, rfl, rfl, hVn, ?_, ?_, ?_, ?_, fun _ => rfl, b6⟩
              · exact isE_node (s := []) (t := []) (i := []) rfl (isEs_block [rx, ry] _ hbn rfl (.cons (unhide Hrx ▸ (unhide HAL).get x hl6x hx6) (.cons (unhide Hry ▸ (unhide HAL).get y hl6y hy6) .nil)))
              · exact dep_two hx6 hy6
              · exact sl_two hx6 hy6
              · rw [typ_two hx6 hy6 (by decide)]
                exact (tab13 x y hx6 hy6).trans (by simp [hx1])
      · as_aux_lemma =>
          by_cases hx1 : x = 1
          · have gx1 : ((x : Int) == 1) = true := by
              have : (x : Int) = 1 := by omega
              simpa using this
            by_cases hy1 : y = 1
            · have gy1 : ((y : Int) == 1) = true := by
                have : (y : Int) = 1 := by omega
                simpa using this
              go_wp2_with fail
              go_meet
              case rel =>
                refine ⟨true, 2, ⟨14, false, 0, ⟨#[]⟩, ⟨#[]⟩, ⟨#[]⟩, some ⟨b8, 0, none⟩, 2, 2⟩, .mk 14 false 0 [] [] [] [thT[x]'hx6, thT[y]'hy6], ⟨2, 0, ⟨#[]⟩⟩, rfl, rfl, hVn, ?_, ?_, ?_, ?_, fun _ => rfl, b6⟩
                · exact isE_node (s := []) (t := []) (i := []) rfl (isEs_block [rx, ry] _ hbn rfl (.cons (unhide Hrx ▸ (unhide HAL).get x hl6x hx6) (.cons (unhide Hry ▸ (unhide HAL).get y hl6y hy6) .nil)))
                · exact dep_two hx6 hy6
                · exact sl_two hx6 hy6
                · rw [typ_two hx6 hy6 (by decide)]
                  exact (tab14 x y hx6 hy6).trans (by simp [hx1, hy1])
            · have gy1 : ((y : Int) == 1) = false := by
                have : ¬ (y : Int) = 1 := by omega
                simpa using this
              go_wp2_with fail
              go_meet
              case rel =>
                refine ⟨false, 2, ⟨14, false, 0, ⟨#[]⟩, ⟨#[]⟩, ⟨#[]⟩, some ⟨b8, 0, none⟩, 2, 2⟩, .mk 14 false 0 [] [] [] [thT[x]'hx6, thT[y]'hy6], ⟨2, 0, ⟨#[]⟩⟩, rfl, rfl, hVn, ?_, ?_, ?_, ?_, fun _ => rfl, b6⟩
                · exact isE_node (s := []) (t := []) (i := []) rfl (isEs_block [rx, ry] _ hbn rfl (.cons (unhide Hrx ▸ (unhide HAL).get x hl6x hx6) (.cons (unhide Hry ▸ (unhide HAL).get y hl6y hy6) .nil)))
                · exact dep_two hx6 hy6
                · exact sl_two hx6 hy6
                · rw [typ_two hx6 hy6 (by decide)]
                  exact (tab14 x y hx6 hy6).trans (by simp [hx1, hy1])
          · have gx1 : ((x : Int) == 1) = false := by
              have : ¬ (x : Int) = 1 := by omega
              simpa using this
            go_wp2_with fail
            go_meet
            case rel =>
              refine ⟨false, 2, ⟨14, false, 0, ⟨#[]⟩, ⟨#[]⟩, ⟨#[]⟩, some ⟨b8, 0, none⟩, 2, 2⟩, .mk 14 false 0 [] [] [] [thT[x]'hx6, thT[y]'hy6], ⟨2, 0, ⟨#[]⟩⟩, rfl, rfl, hVn, ?_, ?_, ?_, ?_, fun _ => rfl, b6⟩
              · exact isE_node (s := []) (t := []) (i := []) rfl (isEs_block [rx, ry] _ hbn rfl (.cons (unhide Hrx ▸ (unhide HAL).get x hl6x hx6) (.cons (unhide Hry ▸ (unhide HAL).get y hl6y hy6) .nil)))
              · exact dep_two hx6 hy6
              · exact sl_two hx6 hy6
              · rw [typ_two hx6 hy6 (by decide)]
                exact (tab14 x y hx6 hy6).trans (by simp [hx1])
      · as_aux_lemma =>
          by_cases hx1 : x = 1
          · have gx1 : ((x : Int) == 1) = true := by
              have : (x : Int) = 1 := by omega
              simpa using this
            by_cases hy1 : y = 1
            · have gy1 : ((y : Int) == 1) = true := by
                have : (y : Int) = 1 := by omega
                simpa using this
              go_wp2_with fail
              go_meet
              case rel =>
                refine ⟨true, 2, ⟨15, false, 0, ⟨#[]⟩, ⟨#[]⟩, ⟨#[]⟩, some ⟨b8, 0, none⟩, 2, 2⟩, .mk 15 false 0 [] [] [] [thT[x]'hx6, thT[y]'hy6], ⟨2, 0, ⟨#[]⟩⟩, rfl, rfl, hVn, ?_, ?_, ?_, ?_, fun _ => rfl, b6⟩
                · exact isE_node (s := []) (t := []) (i := []) rfl (isEs_block [rx, ry] _ hbn rfl (.cons (unhide Hrx ▸ (unhide HAL).get x hl6x hx6) (.cons (unhide Hry ▸ (unhide HAL).get y hl6y hy6) .nil)))
                · exact dep_two hx6 hy6
                · exact sl_two hx6 hy6
                · rw [typ_two hx6 hy6 (by decide)]
                  exact (tab15 x y hx6 hy6).trans (by simp [hx1, hy1])
            · have gy1 : ((y : Int) == 1) = false := by
                have : ¬ (y : Int) = 1 := by omega
                simpa using this
              go_wp2_with fail
              go_meet
              case rel =>
                refine ⟨false, 2, ⟨15, false, 0, ⟨#[]⟩, ⟨#[]⟩, ⟨#[]⟩, some ⟨b8, 0, none⟩, 2, 2⟩, .mk 15 false 0 [] [] [] [thT[x]'hx6, thT[y]'hy6], ⟨2, 0, ⟨#[]⟩⟩, rfl, rfl, hVn, ?_, ?_, ?_, ?_, fun _ => rfl, b6⟩
                · exact isE_node (s := []) (t := []) (i := []) rfl (isEs_block [rx, ry] _ hbn rfl (.cons (unhide Hrx ▸ (unhide HAL).get x hl6x hx6) (.cons (unhide Hry ▸ (unhide HAL).get y hl6y hy6) .nil)))
                · exact dep_two hx6 hy6
                · exact sl_two hx6 hy6
                · rw [typ_two hx6 hy6 (by decide)]
                  exact (tab15 x y hx6 hy6).trans (by simp [hx1, hy1])
          · have gx1 : ((x : Int) == 1) = false := by
              have : ¬ (x : Int) = 1 := by omega
              simpa using this
            go_wp2_with fail
            go_meet
            case rel =>
              refine ⟨false, 2, ⟨15, false, 0, ⟨#[]⟩, ⟨#[]⟩, ⟨#[]⟩, some ⟨b8, 0, none⟩, 2, 2⟩, .mk 15 false 0 [] [] [] [thT[x]'hx6, thT[y]'hy6], ⟨2, 0, ⟨#[]⟩⟩, rfl, rfl, hVn, ?_, ?_, ?_, ?_, fun _ => rfl, b6⟩
              · exact isE_node (s := []) (t := []) (i := []) rfl (isEs_block [rx, ry] _ hbn rfl (.cons (unhide Hrx ▸ (unhide HAL).get x hl6x hx6) (.cons (unhide Hry ▸ (unhide HAL).get y hl6y hy6) .nil)))
              · exact dep_two hx6 hy6
              · exact sl_two hx6 hy6
              · rw [typ_two hx6 hy6 (by decide)]
                exact (tab15 x y hx6 hy6).trans (by simp [hx1])
      · as_aux_lemma =>
          by_cases hx1 : x = 1
          · have gx1 : ((x : Int) == 1) = true := by
              have : (x : Int) = 1 := by omega
              simpa using this
            by_cases hy1 : y = 1
            · have gy1 : ((y : Int) == 1) = true := by
                have : (y : Int) = 1 := by omega
                simpa using this
              go_wp2_with fail
              go_meet
              case rel =>
                refine ⟨true, 1, ⟨16, false, 0, ⟨#[]⟩, ⟨#[]⟩, ⟨#[]⟩, some ⟨b8, 0, none⟩, 2, 2⟩, .mk 16 false 0 [] [] [] [thT[x]'hx6, thT[y]'hy6], ⟨1, 0, ⟨#[]⟩⟩, rfl, rfl, hVn, ?_, ?_, ?_, ?_, fun _ => rfl, b6⟩
                · exact isE_node (s := []) (t := []) (i := []) rfl (isEs_block [rx, ry] _ hbn rfl (.cons (unhide Hrx ▸ (unhide HAL).get x hl6x hx6) (.cons (unhide Hry ▸ (unhide HAL).get y hl6y hy6) .nil)))
                · exact dep_two hx6 hy6
                · exact sl_two hx6 hy6
                · rw [typ_two hx6 hy6 (by decide)]
                  exact (tab16 x y hx6 hy6).trans (by simp [hx1, hy1])
            · have gy1 : ((y : Int) == 1) = false := by
                have : ¬ (y : Int) = 1 := by omega
                simpa using this
              go_wp2_with fail
              go_meet
              case rel =>
                refine ⟨false, 1, ⟨16, false, 0, ⟨#[]⟩, ⟨#[]⟩, ⟨#[]⟩, some ⟨b8, 0, none⟩, 2, 2⟩, .mk 16 false 0 [] [] [] [thT[x]'hx6, thT[y]'hy6], ⟨1, 0, ⟨#[]⟩⟩, rfl, rfl, hVn, ?_, ?_, ?_, ?_, fun _ => rfl, b6⟩
                · exact isE_node (s := []) (t := []) (i := []) rfl (isEs_block [rx, ry] _ hbn rfl (.cons (unhide Hrx ▸ (unhide HAL).get x hl6x hx6) (.cons (unhide Hry ▸ (unhide HAL).get y hl6y hy6) .nil)))
                · exact dep_two hx6 hy6
                · exact sl_two hx6 hy6
                · rw [typ_two hx6 hy6 (by decide)]
                  exact (tab16 x y hx6 hy6).trans (by simp [hx1, hy1])
          · have gx1 : ((x : Int) == 1) = false := by
              have : ¬ (x : Int) = 1 := by omega
              simpa using this
            go_wp2_with fail
            go_meet
            case rel =>
              refine ⟨false, 1, ⟨16, false, 0, ⟨#[]⟩, ⟨#[]⟩, ⟨#[]⟩, some ⟨b8, 0, none⟩, 2, 2⟩, .mk 16 false 0 [] [] [] [thT[x]'hx6, thT[y]'hy6], ⟨1, 0, ⟨#[]⟩⟩, rfl, rfl, hVn, ?_, ?_, ?_, ?_, fun _ => rfl, b6⟩
              · exact isE_node (s := []) (t := []) (i := []) rfl (isEs_block [rx, ry] _ hbn rfl (.cons (unhide Hrx ▸ (unhide HAL).get x hl6x hx6) (.cons (unhide Hry ▸ (unhide HAL).get y hl6y hy6) .nil)))
              · exact dep_two hx6 hy6
              · exact sl_two hx6 hy6
              · rw [typ_two hx6 hy6 (by decide)]
                exact (tab16 x y hx6 hy6).trans (by simp [hx1])
      · as_aux_lemma =>
          by_cases hx1 : x = 1
          · have gx1 : ((x : Int) == 1) = true := by
              have : (x : Int) = 1 := by omega
              simpa using this
            by_cases hy1 : y = 1
            · have gy1 : ((y : Int) == 1) = true := by
                have : (y : Int) = 1 := by omega
                simpa using this
              go_wp2_with fail
              go_meet
              case rel =>
                refine ⟨true, 1, ⟨17, false, 0, ⟨#[]⟩, ⟨#[]⟩, ⟨#[]⟩, some ⟨b8, 0, none⟩, 2, 2⟩, .mk 17 false 0 [] [] [] [thT[x]'hx6, thT[y]'hy6], ⟨1, 0, ⟨#[]⟩⟩, rfl, rfl, hVn, ?_, ?_, ?_, ?_, fun _ => rfl, b6⟩
                · exact isE_node (s := []) (t := []) (i := []) rfl (isEs_block [rx, ry] _ hbn rfl (.cons (unhide Hrx ▸ (unhide HAL).get x hl6x hx6) (.cons (unhide Hry ▸ (unhide HAL).get y hl6y hy6) .nil)))
                · exact dep_two hx6 hy6
                · exact sl_two hx6 hy6
                · rw [typ_two hx6 hy6 (by decide)]
                  exact (tab17 x y hx6 hy6).trans (by simp [hx1, hy1])
            · have gy1 : ((y : Int) == 1) = false := by
                have : ¬ (y : Int) = 1 := by omega
                simpa using this
              go_wp2_with fail
              go_meet
              case rel =>
                refine ⟨false, 1, ⟨17, false, 0, ⟨#[]⟩, ⟨#[]⟩, ⟨#[]⟩, some ⟨b8, 0, none⟩, 2, 2⟩, .mk 17 false 0 [] [] [] [thT[x]'hx6, thT[y]'hy6], ⟨1, 0, ⟨#[]⟩⟩, rfl, rfl, hVn, ?_, ?_, ?_, ?_, fun _ => rfl, b6⟩
                · exact isE_node (s := []) (t := []) (i := []) rfl (isEs_block [rx, ry] _ hbn rfl (.cons (unhide Hrx ▸ (unhide HAL).get x hl6x hx6) (.cons (unhide Hry ▸ (unhide HAL).get y hl6y hy6) .nil)))
                · exact dep_two hx6 hy6
                · exact sl_two hx6 hy6
                · rw [typ_two hx6 hy6 (by decide)]
                  exact (tab17 x y hx6 hy6).trans (by simp [hx1, hy1])
          · have gx1 : ((x : Int) == 1) = false := by
              have : ¬ (x : Int) = 1 := by omega
              simpa using this
            go_wp2_with fail
            go_meet
            case rel =>
              refine ⟨false, 1, ⟨17, false, 0, ⟨#[]⟩, ⟨#[]⟩, ⟨#[]⟩, some ⟨b8, 0, none⟩, 2, 2⟩, .mk 17 false 0 [] [] [] [thT[x]'hx6, thT[y]'hy6], ⟨1, 0, ⟨#[]⟩⟩, rfl, rfl, hVn, ?_, ?_, ?_, ?_, fun _ => rfl, b6⟩
              · exact isE_node (s := []) (t := []) (i := []) rfl (isEs_block [rx, ry] _ hbn rfl (.cons (unhide Hrx ▸ (unhide HAL).get x hl6x hx6) (.cons (unhide Hry ▸ (unhide HAL).get y hl6y hy6) .nil)))
              · exact dep_two hx6 hy6
              · exact sl_two hx6 hy6
              · rw [typ_two hx6 hy6 (by decide)]
                exact (tab17 x y hx6 hy6).trans (by simp [hx1])
      · as_aux_lemma =>
          by_cases hx1 : x = 1
          · have gx1 : ((x : Int) == 1) = true := by
              have : (x : Int) = 1 := by omega
              simpa using this
            by_cases hy1 : y = 1
            · have gy1 : ((y : Int) == 1) = true := by
                have : (y : Int) = 1 := by omega
                simpa using this
              go_wp2_with fail
              go_meet
              case rel =>
                refine ⟨true, 1, ⟨18, false, 0, ⟨#[]⟩, ⟨#[]⟩, ⟨#[]⟩, some ⟨b8, 0, none⟩, 2, 2⟩, .mk 18 false 0 [] [] [] [thT[x]'hx6, thT[y]'hy6], ⟨1, 0, ⟨#[]⟩⟩, rfl, rfl, hVn, ?_, ?_, ?_, ?_, fun _ => rfl, b6⟩
                · exact isE_node (s := []) (t := []) (i := []) rfl (isEs_block [rx, ry] _ hbn rfl (.cons (unhide Hrx ▸ (unhide HAL).get x hl6x hx6) (.cons (unhide Hry ▸ (unhide HAL).get y hl6y hy6) .nil)))
                · exact dep_two hx6 hy6
                · exact sl_two hx6 hy6
                · rw [typ_two hx6 hy6 (by decide)]
                  exact (tab18 x y hx6 hy6).trans (by simp [hx1, hy1])
            · have gy1 : ((y : Int) == 1) = false := by
                have : ¬ (y : Int) = 1 := by omega
                simpa using this
              go_wp2_with fail
              go_meet
              case rel =>
                refine ⟨false, 1, ⟨18, false, 0, ⟨#[]⟩, ⟨#[]⟩, ⟨#[]⟩, some ⟨b8, 0, none⟩, 2, 2⟩, .mk 18 false 0 [] [] [] [thT[x]'hx6, thT[y]'hy6], ⟨1, 0, ⟨#[]⟩⟩, rfl, rfl, hVn, ?_, ?_, ?_, ?_, fun _ => rfl, b6⟩
                · exact isE_node (s := []) (t := []) (i := []) rfl (isEs_block [rx, ry] _ hbn rfl (.cons (unhide Hrx ▸ (unhide HAL).get x hl6x hx6) (.cons (unhide Hry ▸ (unhide HAL).get y hl6y hy6) .nil)))
                · exact dep_two hx6 hy6
                · exact sl_two hx6 hy6
                · rw [typ_two hx6 hy6 (by decide)]
                  exact (tab18 x y hx6 hy6).trans (by simp [hx1, hy1])
          · have gx1 : ((x : Int) == 1) = false := by
              have : ¬ (x : Int) = 1 := by omega
              simpa using this
            go_wp2_with fail
            go_meet
            case rel =>
              refine ⟨false, 1, ⟨18, false, 0, ⟨#[]⟩, ⟨#[]⟩, ⟨#[]⟩, some ⟨b8, 0, none⟩, 2, 2⟩, .mk 18 false 0 [] [] [] [thT[x]'hx6, thT[y]'hy6], ⟨1, 0, ⟨#[]⟩⟩, rfl, rfl, hVn, ?_, ?_, ?_, ?_, fun _ => rfl, b6⟩
              · exact isE_node (s := []) (t := []) (i := []) rfl (isEs_block [rx, ry] _ hbn rfl (.cons (unhide Hrx ▸ (unhide HAL).get x hl6x hx6) (.cons (unhide Hry ▸ (unhide HAL).get y hl6y hy6) .nil)))
              · exact dep_two hx6 hy6
              · exact sl_two hx6 hy6
              · rw [typ_two hx6 hy6 (by decide)]
                exact (tab18 x y hx6 hy6).trans (by simp [hx1])
      · as_aux_lemma =>
          by_cases hx1 : x = 1
          · have gx1 : ((x : Int) == 1) = true := by
              have : (x : Int) = 1 := by omega
              simpa using this
            by_cases hy1 : y = 1
            · have gy1 : ((y : Int) == 1) = true := by
                have : (y : Int) = 1 := by omega
                simpa using this
              go_wp2_with fail
              go_meet
              case rel =>
                refine ⟨true, 1, ⟨19, false, 0, ⟨#[]⟩, ⟨#[]⟩, ⟨#[]⟩, some ⟨b8, 0, none⟩, 2, 2⟩, .mk 19 false 0 [] [] [] [thT[x]'hx6, thT[y]'hy6], ⟨1, 0, ⟨#[]⟩⟩, rfl, rfl, hVn, ?_, ?_, ?_, ?_, fun _ => rfl, b6⟩
                · exact isE_node (s := []) (t := []) (i := []) rfl (isEs_block [rx, ry] _ hbn rfl (.cons (unhide Hrx ▸ (unhide HAL).get x hl6x hx6) (.cons (unhide Hry ▸ (unhide HAL).get y hl6y hy6) .nil)))
                · exact dep_two hx6 hy6
                · exact sl_two hx6 hy6
                · rw [typ_two hx6 hy6 (by decide)]
                  exact (tab19 x y hx6 hy6).trans (by simp [hx1, hy1])
            · have gy1 : ((y : Int) == 1) = false := by
                have : ¬ (y : Int) = 1 := by omega
                simpa using this
              go_wp2_with fail
              go_meet
              case rel =>
                refine ⟨false, 1, ⟨19, false, 0, ⟨#[]⟩, ⟨#[]⟩, ⟨#[]⟩, some ⟨b8, 0, none⟩, 2, 2⟩, .mk 19 false 0 [] [] [] [thT[x]'hx6, thT[y]'hy6], ⟨1, 0, ⟨#[]⟩⟩, rfl, rfl, hVn, ?_, ?_, ?_, ?_, fun _ => rfl, b6⟩
                · exact isE_node (s := []) (t := []) (i := []) rfl (isEs_block [rx, ry] _ hbn rfl (.cons (unhide Hrx ▸ (unhide HAL).get x hl6x hx6) (.cons (unhide Hry ▸ (unhide HAL).get y hl6y hy6) .nil)))
                · exact dep_two hx6 hy6
                · exact sl_two hx6 hy6
                · rw [typ_two hx6 hy6 (by decide)]
                  exact (tab19 x y hx6 hy6).trans (by simp [hx1, hy1])
          · have gx1 : ((x : Int) == 1) = false := by
              have : ¬ (x : Int) = 1 := by omega
              simpa using this
            go_wp2_with fail
            go_meet
            case rel =>
              refine ⟨false, 1, ⟨19, false, 0, ⟨#[]⟩, ⟨#[]⟩, ⟨#[]⟩, some ⟨b8, 0, none⟩, 2, 2⟩, .mk 19 false 0 [] [] [] [thT[x]'hx6, thT[y]'hy6], ⟨1, 0, ⟨#[]⟩⟩, rfl, rfl, hVn, ?_, ?_, ?_, ?_, fun _ => rfl, b6⟩
              · exact isE_node (s := []) (t := []) (i := []) rfl (isEs_block [rx, ry] _ hbn rfl (.cons (unhide Hrx ▸ (unhide HAL).get x hl6x hx6) (.cons (unhide Hry ▸ (unhide HAL).get y hl6y hy6) .nil)))
              · exact dep_two hx6 hy6
              · exact sl_two hx6 hy6
              · rw [typ_two hx6 hy6 (by decide)]
                exact (tab19 x y hx6 hy6).trans (by simp [hx1])
      · as_aux_lemma =>
          by_cases hxy : x = y
          · have gxy : ((x : Int) == (y : Int)) = true := by
              have : (x : Int) = (y : Int) := by omega
              simpa using this
            go_wp2_with fail
            go_meet
            case rel =>
              refine ⟨true, 1, ⟨20, false, 0, ⟨#[]⟩, ⟨#[]⟩, ⟨#[]⟩, some ⟨b8, 0, none⟩, 2, 2⟩, .mk 20 false 0 [] [] [] [thT[x]'hx6, thT[y]'hy6], ⟨1, 0, ⟨#[]⟩⟩, rfl, rfl, hVn, ?_, ?_, ?_, ?_, fun _ => rfl, b6⟩
              · exact isE_node (s := []) (t := []) (i := []) rfl (isEs_block [rx, ry] _ hbn rfl (.cons (unhide Hrx ▸ (unhide HAL).get x hl6x hx6) (.cons (unhide Hry ▸ (unhide HAL).get y hl6y hy6) .nil)))
              · exact dep_two hx6 hy6
              · exact sl_two hx6 hy6
              · rw [typ_two hx6 hy6 (by decide)]
                exact (tab20 x y hx6 hy6).trans (by simp [hxy])
          · have gxy : ((x : Int) == (y : Int)) = false := by
              have : ¬ (x : Int) = (y : Int) := by omega
              simpa using this
            go_wp2_with fail
            go_meet
            case rel =>
              refine ⟨false, 1, ⟨20, false, 0, ⟨#[]⟩, ⟨#[]⟩, ⟨#[]⟩, some ⟨b8, 0, none⟩, 2, 2⟩, .mk 20 false 0 [] [] [] [thT[x]'hx6, thT[y]'hy6], ⟨1, 0, ⟨#[]⟩⟩, rfl, rfl, hVn, ?_, ?_, ?_, ?_, fun _ => rfl, b6⟩
              · exact isE_node (s := []) (t := []) (i := []) rfl (isEs_block [rx, ry] _ hbn rfl (.cons (unhide Hrx ▸ (unhide HAL).get x hl6x hx6) (.cons (unhide Hry ▸ (unhide HAL).get y hl6y hy6) .nil)))
              · exact dep_two hx6 hy6
              · exact sl_two hx6 hy6
              · rw [typ_two hx6 hy6 (by decide)]
                exact (tab20 x y hx6 hy6).trans (by simp [hxy])
      · as_aux_lemma =>
          by_cases hxy : x = y
          · have gxy : ((x : Int) == (y : Int)) = true := by
              have : (x : Int) = (y : Int) := by omega
              simpa using this
            go_wp2_with fail
            go_meet
            case rel =>
              refine ⟨true, 1, ⟨21, false, 0, ⟨#[]⟩, ⟨#[]⟩, ⟨#[]⟩, some ⟨b8, 0, none⟩, 2, 2⟩, .mk 21 false 0 [] [] [] [thT[x]'hx6, thT[y]'hy6], ⟨1, 0, ⟨#[]⟩⟩, rfl, rfl, hVn, ?_, ?_, ?_, ?_, fun _ => rfl, b6⟩
              · exact isE_node (s := []) (t := []) (i := []) rfl (isEs_block [rx, ry] _ hbn rfl (.cons (unhide Hrx ▸ (unhide HAL).get x hl6x hx6) (.cons (unhide Hry ▸ (unhide HAL).get y hl6y hy6) .nil)))
              · exact dep_two hx6 hy6
              · exact sl_two hx6 hy6
              · rw [typ_two hx6 hy6 (by decide)]
                exact (tab21 x y hx6 hy6).trans (by simp [hxy])
          · have gxy : ((x : Int) == (y : Int)) = false := by
              have : ¬ (x : Int) = (y : Int) := by omega
              simpa using this
            go_wp2_with fail
            go_meet
            case rel =>
              refine ⟨false, 1, ⟨21, false, 0, ⟨#[]⟩, ⟨#[]⟩, ⟨#[]⟩, some ⟨b8, 0, none⟩, 2, 2⟩, .mk 21 false 0 [] [] [] [thT[x]'hx6, thT[y]'hy6], ⟨1, 0, ⟨#[]⟩⟩, rfl, rfl, hVn, ?_, ?_, ?_, ?_, fun _ => rfl, b6⟩
              · exact isE_node (s := []) (t := []) (i := []) rfl (isEs_block [rx, ry] _ hbn rfl (.cons (unhide Hrx ▸ (unhide HAL).get x hl6x hx6) (.cons (unhide Hry ▸ (unhide HAL).get y hl6y hy6) .nil)))
              · exact dep_two hx6 hy6
              · exact sl_two hx6 hy6
              · rw [typ_two hx6 hy6 (by decide)]
                exact (tab21 x y hx6 hy6).trans (by simp [hxy])
      · as_aux_lemma =>
          by_cases hx3 : x = 3
          · have gx3 : ((x : Int) == 3) = true := by
              have : (x : Int) = 3 := by omega
              simpa using this
            by_cases hy3 : y = 3
            · have gy3 : ((y : Int) == 3) = true := by
                have : (y : Int) = 3 := by omega
                simpa using this
              go_wp2_with fail
              go_meet
              case rel =>
                refine ⟨true, 1, ⟨22, false, 0, ⟨#[]⟩, ⟨#[]⟩, ⟨#[]⟩, some ⟨b8, 0, none⟩, 2, 2⟩, .mk 22 false 0 [] [] [] [thT[x]'hx6, thT[y]'hy6], ⟨1, 0, ⟨#[]⟩⟩, rfl, rfl, hVn, ?_, ?_, ?_, ?_, fun _ => rfl, b6⟩
                · exact isE_node (s := []) (t := []) (i := []) rfl (isEs_block [rx, ry] _ hbn rfl (.cons (unhide Hrx ▸ (unhide HAL).get x hl6x hx6) (.cons (unhide Hry ▸ (unhide HAL).get y hl6y hy6) .nil)))
                · exact dep_two hx6 hy6
                · exact sl_two hx6 hy6
                · rw [typ_two hx6 hy6 (by decide)]
                  exact (tab22 x y hx6 hy6).trans (by simp [hx3, hy3])
            · have gy3 : ((y : Int) == 3) = false := by
                have : ¬ (y : Int) = 3 := by omega
                simpa using this
              by_cases hy5 : y = 5
              · have gy5 : ((y : Int) == 5) = true := by
                  have : (y : Int) = 5 := by omega
                  simpa using this
                go_wp2_with fail
                go_meet
                case rel =>
                  refine ⟨true, 1, ⟨22, false, 0, ⟨#[]⟩, ⟨#[]⟩, ⟨#[]⟩, some ⟨b8, 0, none⟩, 2, 2⟩, .mk 22 false 0 [] [] [] [thT[x]'hx6, thT[y]'hy6], ⟨1, 0, ⟨#[]⟩⟩, rfl, rfl, hVn, ?_, ?_, ?_, ?_, fun _ => rfl, b6⟩
                  · exact isE_node (s := []) (t := []) (i := []) rfl (isEs_block [rx, ry] _ hbn rfl (.cons (unhide Hrx ▸ (unhide HAL).get x hl6x hx6) (.cons (unhide Hry ▸ (unhide HAL).get y hl6y hy6) .nil)))
                  · exact dep_two hx6 hy6
                  · exact sl_two hx6 hy6
                  · rw [typ_two hx6 hy6 (by decide)]
                    exact (tab22 x y hx6 hy6).trans (by simp [hx3, hy5])
              · have gy5 : ((y : Int) == 5) = false := by
                  have : ¬ (y : Int) = 5 := by omega
                  simpa using this
                go_wp2_with fail
                go_meet
                case rel =>
                  refine ⟨false, 1, ⟨22, false, 0, ⟨#[]⟩, ⟨#[]⟩, ⟨#[]⟩, some ⟨b8, 0, none⟩, 2, 2⟩, .mk 22 false 0 [] [] [] [thT[x]'hx6, thT[y]'hy6], ⟨1, 0, ⟨#[]⟩⟩, rfl, rfl, hVn, ?_, ?_, ?_, ?_, fun _ => rfl, b6⟩
                  · exact isE_node (s := []) (t := []) (i := []) rfl (isEs_block [rx, ry] _ hbn rfl (.cons (unhide Hrx ▸ (unhide HAL).get x hl6x hx6) (.cons (unhide Hry ▸ (unhide HAL).get y hl6y hy6) .nil)))
                  · exact dep_two hx6 hy6
                  · exact sl_two hx6 hy6
                  · rw [typ_two hx6 hy6 (by decide)]
                    exact (tab22 x y hx6 hy6).trans (by simp [hx3, hy3, hy5])
          · have gx3 : ((x : Int) == 3) = false := by
              have : ¬ (x : Int) = 3 := by omega
              simpa using this
            go_wp2_with fail
            go_meet
            case rel =>
              refine ⟨false, 1, ⟨22, false, 0, ⟨#[]⟩, ⟨#[]⟩, ⟨#[]⟩, some ⟨b8, 0, none⟩, 2, 2⟩, .mk 22 false 0 [] [] [] [thT[x]'hx6, thT[y]'hy6], ⟨1, 0, ⟨#[]⟩⟩, rfl, rfl, hVn, ?_, ?_, ?_, ?_, fun _ => rfl, b6⟩
              · exact isE_node (s := []) (t := []) (i := []) rfl (isEs_block [rx, ry] _ hbn rfl (.cons (unhide Hrx ▸ (unhide HAL).get x hl6x hx6) (.cons (unhide Hry ▸ (unhide HAL).get y hl6y hy6) .nil)))
              · exact dep_two hx6 hy6
              · exact sl_two hx6 hy6
              · rw [typ_two hx6 hy6 (by decide)]
                exact (tab22 x y hx6 hy6).trans (by simp [hx3])
      · as_aux_lemma =>
          by_cases hx0 : x = 0
          · have gx0 : ((x : Int) == 0) = true := by
              have : (x : Int) = 0 := by omega
              simpa using this
            by_cases hy0 : y = 0
            · have gy0 : ((y : Int) == 0) = true := by
                have : (y : Int) = 0 := by omega
                simpa using this
              go_wp2_with fail
              go_meet
              case rel =>
                refine ⟨true, 1, ⟨23, false, 0, ⟨#[]⟩, ⟨#[]⟩, ⟨#[]⟩, some ⟨b8, 0, none⟩, 2, 2⟩, .mk 23 false 0 [] [] [] [thT[x]'hx6, thT[y]'hy6], ⟨1, 0, ⟨#[]⟩⟩, rfl, rfl, hVn, ?_, ?_, ?_, ?_, fun _ => rfl, b6⟩
                · exact isE_node (s := []) (t := []) (i := []) rfl (isEs_block [rx, ry] _ hbn rfl (.cons (unhide Hrx ▸ (unhide HAL).get x hl6x hx6) (.cons (unhide Hry ▸ (unhide HAL).get y hl6y hy6) .nil)))
                · exact dep_two hx6 hy6
                · exact sl_two hx6 hy6
                · rw [typ_two hx6 hy6 (by decide)]
                  exact (tab23 x y hx6 hy6).trans (by simp [hx0, hy0])
            · have gy0 : ((y : Int) == 0) = false := by
                have : ¬ (y : Int) = 0 := by omega
                simpa using this
              go_wp2_with fail
              go_meet
              case rel =>
                refine ⟨false, 1, ⟨23, false, 0, ⟨#[]⟩, ⟨#[]⟩, ⟨#[]⟩, some ⟨b8, 0, none⟩, 2, 2⟩, .mk 23 false 0 [] [] [] [thT[x]'hx6, thT[y]'hy6], ⟨1, 0, ⟨#[]⟩⟩, rfl, rfl, hVn, ?_, ?_, ?_, ?_, fun _ => rfl, b6⟩
                · exact isE_node (s := []) (t := []) (i := []) rfl (isEs_block [rx, ry] _ hbn rfl (.cons (unhide Hrx ▸ (unhide HAL).get x hl6x hx6) (.cons (unhide Hry ▸ (unhide HAL).get y hl6y hy6) .nil)))
                · exact dep_two hx6 hy6
                · exact sl_two hx6 hy6
                · rw [typ_two hx6 hy6 (by decide)]
                  exact (tab23 x y hx6 hy6).trans (by simp [hx0, hy0])
          · have gx0 : ((x : Int) == 0) = false := by
              have : ¬ (x : Int) = 0 := by omega
              simpa using this
            go_wp2_with fail
            go_meet
            case rel =>
              refine ⟨false, 1, ⟨23, false, 0, ⟨#[]⟩, ⟨#[]⟩, ⟨#[]⟩, some ⟨b8, 0, none⟩, 2, 2⟩, .mk 23 false 0 [] [] [] [thT[x]'hx6, thT[y]'hy6], ⟨1, 0, ⟨#[]⟩⟩, rfl, rfl, hVn, ?_, ?_, ?_, ?_, fun _ => rfl, b6⟩
              · exact isE_node (s := []) (t := []) (i := []) rfl (isEs_block [rx, ry] _ hbn rfl (.cons (unhide Hrx ▸ (unhide HAL).get x hl6x hx6) (.cons (unhide Hry ▸ (unhide HAL).get y hl6y hy6) .nil)))
              · exact dep_two hx6 hy6
              · exact sl_two hx6 hy6
              · rw [typ_two hx6 hy6 (by decide)]
                exact (tab23 x y hx6 hy6).trans (by simp [hx0])
      · as_aux_lemma =>
          by_cases hx0 : x = 0
          · have gx0 : ((x : Int) == 0) = true := by
              have : (x : Int) = 0 := by omega
              simpa using this
            by_cases hy0 : y = 0
            · have gy0 : ((y : Int) == 0) = true := by
                have : (y : Int) = 0 := by omega
                simpa using this
              go_wp2_with fail
              go_meet
              case rel =>
                refine ⟨true, 1, ⟨24, false, 0, ⟨#[]⟩, ⟨#[]⟩, ⟨#[]⟩, some ⟨b8, 0, none⟩, 2, 2⟩, .mk 24 false 0 [] [] [] [thT[x]'hx6, thT[y]'hy6], ⟨1, 0, ⟨#[]⟩⟩, rfl, rfl, hVn, ?_, ?_, ?_, ?_, fun _ => rfl, b6⟩
                · exact isE_node (s := []) (t := []) (i := []) rfl (isEs_block [rx, ry] _ hbn rfl (.cons (unhide Hrx ▸ (unhide HAL).get x hl6x hx6) (.cons (unhide Hry ▸ (unhide HAL).get y hl6y hy6) .nil)))
                · exact dep_two hx6 hy6
                · exact sl_two hx6 hy6
                · rw [typ_two hx6 hy6 (by decide)]
                  exact (tab24 x y hx6 hy6).trans (by simp [hx0, hy0])
            · have gy0 : ((y : Int) == 0) = false := by
                have : ¬ (y : Int) = 0 := by omega
                simpa using this
              go_wp2_with fail
              go_meet
              case rel =>
                refine ⟨false, 1, ⟨24, false, 0, ⟨#[]⟩, ⟨#[]⟩, ⟨#[]⟩, some ⟨b8, 0, none⟩, 2, 2⟩, .mk 24 false 0 [] [] [] [thT[x]'hx6, thT[y]'hy6], ⟨1, 0, ⟨#[]⟩⟩, rfl, rfl, hVn, ?_, ?_, ?_, ?_, fun _ => rfl, b6⟩
                · exact isE_node (s := []) (t := []) (i := []) rfl (isEs_block [rx, ry] _ hbn rfl (.cons (unhide Hrx ▸ (unhide HAL).get x hl6x hx6) (.cons (unhide Hry ▸ (unhide HAL).get y hl6y hy6) .nil)))
                · exact dep_two hx6 hy6
                · exact sl_two hx6 hy6
                · rw [typ_two hx6 hy6 (by decide)]
                  exact (tab24 x y hx6 hy6).trans (by simp [hx0, hy0])
          · have gx0 : ((x : Int) == 0) = false := by
              have : ¬ (x : Int) = 0 := by omega
              simpa using this
            go_wp2_with fail
            go_meet
            case rel =>
              refine ⟨false, 1, ⟨24, false, 0, ⟨#[]⟩, ⟨#[]⟩, ⟨#[]⟩, some ⟨b8, 0, none⟩, 2, 2⟩, .mk 24 false 0 [] [] [] [thT[x]'hx6, thT[y]'hy6], ⟨1, 0, ⟨#[]⟩⟩, rfl, rfl, hVn, ?_, ?_, ?_, ?_, fun _ => rfl, b6⟩
              · exact isE_node (s := []) (t := []) (i := []) rfl (isEs_block [rx, ry] _ hbn rfl (.cons (unhide Hrx ▸ (unhide HAL).get x hl6x hx6) (.cons (unhide Hry ▸ (unhide HAL).get y hl6y hy6) .nil)))
              · exact dep_two hx6 hy6
              · exact sl_two hx6 hy6
              · rw [typ_two hx6 hy6 (by decide)]
                exact (tab24 x y hx6 hy6).trans (by simp [hx0])
      · as_aux_lemma =>
          have hb8gt : w2.heap.size + 4 < b8 := by
            have := (Array.getElem?_eq_some_iff.1 hV).1
            omega
          have hb8V : b8 ≠ w2.heap.size + 4 := by omega
          have hVB : w2.heap.size + 4 < w6.heap.size := (Array.getElem?_eq_some_iff.1 hVn).1
          have bz0 := (b6.cell (p := ⟨w2.heap.size + 2, z * 7, none⟩) (by show w2.heap.size + 2 < w2.heap.size + 4; omega)).trans az0
          have bz1 := (b6.cell (p := ⟨w2.heap.size + 2, z * 7 + 1, none⟩) (by show w2.heap.size + 2 < w2.heap.size + 4; omega)).trans az1
          have bz2 := (b6.cell (p := ⟨w2.heap.size + 2, z * 7 + 2, none⟩) (by show w2.heap.size + 2 < w2.heap.size + 4; omega)).trans az2
          have bz3 := (b6.cell (p := ⟨w2.heap.size + 2, z * 7 + 3, none⟩) (by show w2.heap.size + 2 < w2.heap.size + 4; omega)).trans az3
          have bz4 := (b6.cell (p := ⟨w2.heap.size + 2, z * 7 + 4, none⟩) (by show w2.heap.size + 2 < w2.heap.size + 4; omega)).trans az4
          have bz5 := (b6.cell (p := ⟨w2.heap.size + 2, z * 7 + 5, none⟩) (by show w2.heap.size + 2 < w2.heap.size + 4; omega)).trans az5
          have bz6 := (b6.cell (p := ⟨w2.heap.size + 2, z * 7 + 6, none⟩) (by show w2.heap.size + 2 < w2.heap.size + 4; omega)).trans az6
          go_upto_region 29 with fail
          clear v0 v6 vf
          refine wp_specsD (S29 (w2.heap.size + 4) b8 (w2.heap.size + 2) z rx ry rz w6.heap.size) (RA (w2.heap.size + 4) b8 w6 rx ry rz) (by kernel_rfl) (by kernel_rfl) (by kernel_rfl) (RA.start _ hVn hbn) ?_ ?_ ?_
          · intro q o d ho hd L a' w' hL hw hRR hdep hslot hsz K hK
            have hqN : q < 10 := dstOf_lt hd
            have az0' := (hRR.below.cell (p := ⟨w2.heap.size + 2, z * 7, none⟩) (by show w2.heap.size + 2 < w2.heap.size + 4; omega)).trans bz0
            have az1' := (hRR.below.cell (p := ⟨w2.heap.size + 2, z * 7 + 1, none⟩) (by show w2.heap.size + 2 < w2.heap.size + 4; omega)).trans bz1
            have az2' := (hRR.below.cell (p := ⟨w2.heap.size + 2, z * 7 + 2, none⟩) (by show w2.heap.size + 2 < w2.heap.size + 4; omega)).trans bz2
            have az3' := (hRR.below.cell (p := ⟨w2.heap.size + 2, z * 7 + 3, none⟩) (by show w2.heap.size + 2 < w2.heap.size + 4; omega)).trans bz3
            have az4' := (hRR.below.cell (p := ⟨w2.heap.size + 2, z * 7 + 4, none⟩) (by show w2.heap.size + 2 < w2.heap.size + 4; omega)).trans bz4
            have az5' := (hRR.below.cell (p := ⟨w2.heap.size + 2, z * 7 + 5, none⟩) (by show w2.heap.size + 2 < w2.heap.size + 4; omega)).trans bz5
            have az6' := (hRR.below.cell (p := ⟨w2.heap.size + 2, z * 7 + 6, none⟩) (by show w2.heap.size + 2 < w2.heap.size + 4; omega)).trans bz6
            have hs3 : a'.tmps.getD 3 undef = .int .i64 (z : Nat) := hslot 3 (fun q h => by have hl := dstOf_lt h; match q, hl with | 0, _ => cases h | 1, _ => cases h | 2, _ => cases h | 3, _ => cases h | 4, _ => cases h | 5, _ => cases h | 6, _ => cases h | 7, _ => cases h | 8, _ => cases h | 9, _ => cases h)
            have hs9 : a'.tmps.getD 9 undef = .slice (some ⟨w2.heap.size + 2, 0, none⟩) 6 6 := hslot 9 (fun q h => by have hl := dstOf_lt h; match q, hl with | 0, _ => cases h | 1, _ => cases h | 2, _ => cases h | 3, _ => cases h | 4, _ => cases h | 5, _ => cases h | 6, _ => cases h | 7, _ => cases h | 8, _ => cases h | 9, _ => cases h)
            have hs11 : a'.tmps.getD 11 undef = .pointer (some ⟨w2.heap.size + 4, 0, none⟩) := hslot 11 (fun q h => by have hl := dstOf_lt h; match q, hl with | 0, _ => cases h | 1, _ => cases h | 2, _ => cases h | 3, _ => cases h | 4, _ => cases h | 5, _ => cases h | 6, _ => cases h | 7, _ => cases h | 8, _ => cases h | 9, _ => cases h)
            have hc : q = 0 ∨ q = 1 ∨ q = 2 ∨ q = 3 ∨ q = 4 ∨ q = 5 ∨ q = 6 ∨ q = 7 ∨ q = 8 ∨ q = 9 := by omega
            rcases hc with rfl | rfl | rfl | rfl | rfl | rfl | rfl | rfl | rfl | rfl
            · cases ho
              cases hd
              have e0 := hs11
              clear az0' az1' az2' az3' az4' az5' az6'
              unfold Oper.wp
              go_simp
              exact hK _ _ rfl (hRR.step (Below.refl _ _) 0 163 _ (by decide) (by decide)) (fun _ _ h => h)
            · cases ho
              cases hd
              have e0 : a'.tmps.getD 163 undef = .pointer (some ⟨w2.heap.size + 4, 6, none⟩) := hdep 0 163 rfl (by kernel_rfl)
              have e0' : a'.tmps[163]?.getD undef = .pointer (some ⟨w2.heap.size + 4, 6, none⟩) := by simpa using e0
              have hv := hRR.v0 (hRR.not9 hL)
              have y6 : w'.cell? ⟨w2.heap.size + 4, 6, none⟩ = some (.slice (some ⟨b8, 0, none⟩) 2 2) := by rw [Lib.cell_of_heap hv]; rfl
              clear hv
              clear az0' az1' az2' az3' az4' az5' az6'
              unfold Oper.wp
              go_simp
              exact hK _ _ rfl (hRR.step (Below.refl _ _) 1 164 _ (by decide) (by decide)) (fun _ _ h => h)
            · cases ho
              cases hd
              have e0 := hs9
              clear az0' az1' az2' az3' az4' az5' az6'
              unfold Oper.wp
              go_simp
              exact hK _ _ rfl (hRR.step (Below.refl _ _) 2 165 _ (by decide) (by decide)) (fun _ _ h => h)
            · cases ho
              cases hd
              have e0 := hs3
              clear az0' az1' az2' az3' az4' az5' az6'
              unfold Oper.wp
              go_simp
              exact hK _ _ rfl (hRR.step (Below.refl _ _) 3 166 _ (by decide) (by decide)) (fun _ _ h => h)
            · cases ho
              cases hd
              have e0 : a'.tmps.getD 165 undef = .slice (some ⟨w2.heap.size + 2, 0, none⟩) 6 6 := hdep 2 165 rfl (by kernel_rfl)
              have e0' : a'.tmps[165]?.getD undef = .slice (some ⟨w2.heap.size + 2, 0, none⟩) 6 6 := by simpa using e0
              have e1 : a'.tmps.getD 166 undef = .int .i64 (z : Nat) := hdep 3 166 rfl (by kernel_rfl)
              have e1' : a'.tmps[166]?.getD undef = .int .i64 (z : Nat) := by simpa using e1
              clear az0' az1' az2' az3' az4' az5' az6'
              unfold Oper.wp
              go_simp
              exact hK _ _ rfl (hRR.step (Below.refl _ _) 4 167 _ (by decide) (by decide)) (fun _ _ h => h)
            · cases ho
              cases hd
              have e0 : a'.tmps.getD 167 undef = .pointer (some ⟨w2.heap.size + 2, z * 7, none⟩) := hdep 4 167 rfl (by kernel_rfl)
              have e0' : a'.tmps[167]?.getD undef = .pointer (some ⟨w2.heap.size + 2, z * 7, none⟩) := by simpa using e0
              unfold Oper.wp
              go_simp
              exact hK _ _ rfl (hRR.step (Below.refl _ _) 5 168 _ (by decide) (by decide)) (fun _ _ h => h)
            · cases ho
              cases hd
              have e0 : a'.tmps.getD 168 undef = .agg #[.int .i64 rz.k, .bool rz.b, .int .i64 rz.n, .string rz.s, .string rz.t, .string rz.i, .slice rz.lo rz.ll rz.lc] := hdep 5 168 rfl (by kernel_rfl)
              have e0' : a'.tmps[168]?.getD undef = .agg #[.int .i64 rz.k, .bool rz.b, .int .i64 rz.n, .string rz.s, .string rz.t, .string rz.i, .slice rz.lo rz.ll rz.lc] := by simpa using e0
              have hb0 : 168 < a'.tmps.size := by rw [hsz]; exact Nat.le_of_ble_eq_true rfl
              have E0 := hide (show a'.tmps[168] = .agg #[.int .i64 rz.k, .bool rz.b, .int .i64 rz.n, .string rz.s, .string rz.t, .string rz.i, .slice rz.lo rz.ll rz.lc] by simpa [hb0] using e0)
              clear az0' az1' az2' az3' az4' az5' az6'
              unfold Oper.wp
              go_simp
              simp only [unhide E0]
              go_simp
              exact hK _ _ ⟨w'.heap.size, hRR.size, rfl, alloc_heap _ _⟩ (hRR.step (blw1 _ _) 6 169 _ (by decide) (by decide)) (S29_up (blw1 _ _))
            · cases ho
              cases hd
              have e0 : a'.tmps.getD 164 undef = .slice (some ⟨b8, 0, none⟩) 2 2 := hdep 1 164 rfl (by kernel_rfl)
              have e0' : a'.tmps[164]?.getD undef = .slice (some ⟨b8, 0, none⟩) 2 2 := by simpa using e0
              obtain ⟨bb, hBb, e1, hob⟩ : S29 (w2.heap.size + 4) b8 (w2.heap.size + 2) z rx ry rz w6.heap.size 6 (a'.tmps.getD 169 undef) w' := hdep 6 169 rfl (by kernel_rfl)
              clear az0' az1' az2' az3' az4' az5' az6'
              obtain ⟨iE, hiE, hzE0, hzE1, hzE2⟩ := info_parts infoExpr
              have hrow := hRR.row hL
              have hown : w'.ownsRow (w5.heap.size) 39 7 (.slice (some ⟨b8, 0, none⟩) 2 2) 2 (cellsE [rx, ry]) := ⟨rfl, .inr ⟨b8, 2, _, rfl, hB8, hrow, Nat.le_refl _, by unfold maxLen; omega, rfl, rfl⟩⟩
              obtain ⟨v', w'', hrun, h1, h2, _, _⟩ := run_append_own_at (P := Try.prog) w' (w5.heap.size) 37 37 39 iE _ 7 96 Try.underlying37 hiE hzE0 hzE1 hzE2 rfl (by decide) _ _ _ hown ⟨bb, 0, none⟩ 1 1 rz.cells rfl (fun c u hu => by
                rw [Addr.add_lit, Nat.zero_add, Lib.cell_of_heap hob]
                simpa [R7.cells] using hu) (cellE_one rz) (by unfold maxLen; omega) (by omega) (by have := hRR.size; have := b6.size; omega)
              have hown9 : w''.ownsRow (w5.heap.size) 39 7 v' 3 (cellsE [rx, ry, rz]) := by
                have e : cellsE [rx, ry, rz] = cellsE [rx, ry] ++ rz.cells := by simp [cellsE]
                rw [e]
                exact h1
              obtain ⟨g, cap, cur, rfl, hg1, hg2, hg3, _, hg5, hg6⟩ := (hown9.2).resolve_left (fun h => by have := h.2; omega)
              have hRN := hRR.app hL (hw 1 (by kernel_rfl)) hb8gt h2
              unfold Oper.wp execOp
              simp only [resolve, invoke, builtin, Sem.run_bind, Sem.run_pure, Result.andThen_ok, List.map_toArray, List.map_cons, List.map_nil, Act.eval, e0, e1, hrun]
              exact hK _ _ ⟨g, cap, cur, rfl, hg2, hg6, by omega⟩ (hRN 170 _) (S29_grow h2 hrow)
            · cases ho
              cases hd
              have e0 := hs11
              clear az0' az1' az2' az3' az4' az5' az6'
              unfold Oper.wp
              go_simp
              exact hK _ _ rfl (hRR.step (Below.refl _ _) 8 171 _ (by decide) (by decide)) (fun _ _ h => h)
            · cases hd
          · intro q o ho hd L a' w' hL hw hRR hdep K hK
            have hqN : q < 10 := (List.getElem?_eq_some_iff.1 ho).1
            have az0' := (hRR.below.cell (p := ⟨w2.heap.size + 2, z * 7, none⟩) (by show w2.heap.size + 2 < w2.heap.size + 4; omega)).trans bz0
            have az1' := (hRR.below.cell (p := ⟨w2.heap.size + 2, z * 7 + 1, none⟩) (by show w2.heap.size + 2 < w2.heap.size + 4; omega)).trans bz1
            have az2' := (hRR.below.cell (p := ⟨w2.heap.size + 2, z * 7 + 2, none⟩) (by show w2.heap.size + 2 < w2.heap.size + 4; omega)).trans bz2
            have az3' := (hRR.below.cell (p := ⟨w2.heap.size + 2, z * 7 + 3, none⟩) (by show w2.heap.size + 2 < w2.heap.size + 4; omega)).trans bz3
            have az4' := (hRR.below.cell (p := ⟨w2.heap.size + 2, z * 7 + 4, none⟩) (by show w2.heap.size + 2 < w2.heap.size + 4; omega)).trans bz4
            have az5' := (hRR.below.cell (p := ⟨w2.heap.size + 2, z * 7 + 5, none⟩) (by show w2.heap.size + 2 < w2.heap.size + 4; omega)).trans bz5
            have az6' := (hRR.below.cell (p := ⟨w2.heap.size + 2, z * 7 + 6, none⟩) (by show w2.heap.size + 2 < w2.heap.size + 4; omega)).trans bz6
            have hc : q = 0 ∨ q = 1 ∨ q = 2 ∨ q = 3 ∨ q = 4 ∨ q = 5 ∨ q = 6 ∨ q = 7 ∨ q = 8 ∨ q = 9 := by omega
            rcases hc with rfl | rfl | rfl | rfl | rfl | rfl | rfl | rfl | rfl | rfl
            · cases hd
            · cases hd
            · cases hd
            · cases hd
            · cases hd
            · cases hd
            · cases hd
            · cases hd
            · cases hd
            · cases ho
              have e0 : a'.tmps.getD 171 undef = .pointer (some ⟨w2.heap.size + 4, 6, none⟩) := hdep 8 171 rfl (by kernel_rfl)
              have e0' : a'.tmps[171]?.getD undef = .pointer (some ⟨w2.heap.size + 4, 6, none⟩) := by simpa using e0
              obtain ⟨g, cap, cur, e1, hg2, hg6, hg5⟩ : S29 (w2.heap.size + 4) b8 (w2.heap.size + 2) z rx ry rz w6.heap.size 7 (a'.tmps.getD 170 undef) w' := hdep 7 170 rfl (by kernel_rfl)
              clear az0' az1' az2' az3' az4' az5' az6'
              have hv := hRR.v0 hL
              have hgV : g ≠ w2.heap.size + 4 := ne_blocks hg2 hv (by intro e; simp at e; omega)
              have y6 : w'.cell? ⟨w2.heap.size + 4, 6, none⟩ = some (.slice (some ⟨b8, 0, none⟩) 2 2) := by rw [Lib.cell_of_heap hv]; rfl
              have yf : ∀ o, w'.frozen? ⟨w2.heap.size + 4, o, none⟩ = false := fun o => Lib.frozen_of_heap hv o
              have HP := hide (And.intro (hRR.put (heap_setCell_same w' (w2.heap.size + 4) 6 _ _ (.slice (some ⟨g, 0, none⟩) 3 cap) hv) ((Below.heap_setCell w' ⟨w2.heap.size + 4, 6, none⟩ (.slice (some ⟨g, 0, none⟩) 3 cap) g hgV).trans hg2) hg6 hg5 (hw 7 (by kernel_rfl))) (S29_set (V := w2.heap.size + 4) (b8 := b8) (S2 := w2.heap.size + 2) (z := z) (B := w6.heap.size) (rx := rx) (ry := ry) (rz := rz) (v := .slice (some ⟨g, 0, none⟩) 3 cap) hVB hv))
              clear hv hgV hg2 hg6
              unfold Oper.wp
              go_simp
              exact hK _ (unhide HP).1 (unhide HP).2 undef
          · intro v L w' hLa hRR hv
            obtain ⟨g, cap, cur, hVg, hgc, hg6, hg5⟩ := hRR.full (hLa 9 (by decide))
            have bV9 := hRR.below
            have f0 : v 0 = .pointer (some ⟨w2.heap.size + 4, 6, none⟩) := (hv 0 163 rfl).1
            have f1 : v 1 = .slice (some ⟨b8, 0, none⟩) 2 2 := (hv 1 164 rfl).1
            have f2 : v 2 = .slice (some ⟨w2.heap.size + 2, 0, none⟩) 6 6 := (hv 2 165 rfl).1
            have f3 : v 3 = .int .i64 (z : Nat) := (hv 3 166 rfl).1
            have f4 : v 4 = .pointer (some ⟨w2.heap.size + 2, z * 7, none⟩) := (hv 4 167 rfl).1
            have f5 : v 5 = .agg #[.int .i64 rz.k, .bool rz.b, .int .i64 rz.n, .string rz.s, .string rz.t, .string rz.i, .slice rz.lo rz.ll rz.lc] := (hv 5 168 rfl).1
            have f8 : v 8 = .pointer (some ⟨w2.heap.size + 4, 6, none⟩) := (hv 8 171 rfl).1
            clear hRR hv hLa
            simp only [putAll, dstOf, List.getElem?_cons_zero, List.getElem?_cons_succ, Option.bind_some, List.length_cons, List.length_nil, f0, f1, f2, f3, f4, f5, f8]
            clear f0 f1 f2 f3 f4 f5 f8
            simp only [Act.put, List.setIfInBounds_toArray, List.set_cons_succ, List.set_cons_zero]
            generalize v 6 = vv6
            generalize v 7 = vv7
            generalize v 9 = vv9
            obtain ⟨w7, hw7⟩ : ∃ q, q = w' := ⟨_, rfl⟩
            subst hw7
            have b57 := b6.trans bV9
            have HAL7 := hide (all_th (kept_of_mem b57 (by omega) k1) (kept_of_mem b57 (by omega) k2))
            have k47 := kept_of_mem b57 (show w2.heap.size + 3 < w2.heap.size + 4 by omega) k4
            have ck0 : w7.cell? ⟨w2.heap.size + 3, y, none⟩ = some (.int .i64 (tyT[y]'hy6).k) := by rw [Lib.cell_of_heap k47]; exact kinds_at y hy6
            have ck : w7.cell? ⟨w2.heap.size + 1 + 1 + 1, y, none⟩ = some (.int .i64 (tyT[y]'hy6).k) := ck0
            have g2 := cell_regrown ck0
            have g3 := cell_regrown (show w7.cell? ⟨w2.heap.size + 1 + 1 + 1, 0 + y, none⟩ = some (.int .i64 (tyT[y]'hy6).k) by rw [Nat.zero_add]; exact ck)
            have g4 := cell_regrown (show w7.cell? ⟨w2.heap.size + 1 + 1 + 1, 0 + y * 1, none⟩ = some (.int .i64 (tyT[y]'hy6).k) by rw [Nat.zero_add, Nat.mul_one]; exact ck)
            have HND := hide (isE_node (k := 25) (b := false) (n := 0) (s := []) (t := []) (i := []) (lc := cap) (ll := 3) (l := [thT[x]'hx6, thT[y]'hy6, thT[z]'hz6]) rfl (isEs_at (Array.getElem?_eq_some_iff.1 hgc).1 [rx, ry, rz] _ 0 (fun i hi => by rw [Nat.zero_add]; exact at7_take [rx, ry, rz] hgc hg6 i hi) (.cons (unhide Hrx ▸ (unhide HAL7).get x hl6x hx6) (.cons (unhide Hry ▸ (unhide HAL7).get y hl6y hy6) (.cons (unhide Hrz ▸ (unhide HAL7).get z hl6z hz6) .nil)))))
            have HT25 := hide (tab25 x y z hx6 hy6 hz6)
            have HV9 := hide hVg
            have g1 := cell_regrown ck
            generalize (tyT[y]'hy6) = Ty at *
            go_upto_region 30 with fail
            clear ck ck0 hgc hg6 hVg
            by_cases hx0 : x = 0
            · have gx0 : ((x : Int) == 0) = true := by
                have : (x : Int) = 0 := by omega
                simpa using this
              by_cases hyz : y = z
              · have gyz : ((y : Int) == (z : Int)) = true := by
                  have : (y : Int) = (z : Int) := by omega
                  simpa using this
                have Hyz := hide hyz
                clear hyz
                refine wp_region_quiet_below (by kernel_rfl) (by kernel_rfl) ?_
                repeat (first | go_big_quiet_step (fail) | quiet_step (fail))
                refine wpQuiet_nil ?_
                intro _ hw'
                obtain ⟨⟨dq2, osq2⟩, hw''⟩ := hw'
                subst hw''
                have b11 := below_regrown w7 dq2 osq2
                generalize grow (redrawn w7 dq2) osq2 = w8 at *
                clear g1 g2 g3 g4
                go_wp2_with fail
                go_meet
                case rel => exact ⟨true, Ty.k, ⟨25, false, 0, ⟨#[]⟩, ⟨#[]⟩, ⟨#[]⟩, some ⟨g, 0, none⟩, 3, cap⟩, .mk 25 false 0 [] [] [] [thT[x]'hx6, thT[y]'hy6, thT[z]'hz6], Ty, rfl, rfl, kept_of_below b11 (unhide HV9), (unhide HND).lift b11, dep_three hx6 hy6 hz6, sl_three hx6 hy6 hz6, (unhide HT25).trans (by simp [hx0, unhide Hyz]), fun _ => rfl, b57.trans (b11.mono (by have := b57.size; omega))⟩
              · have gyz : ((y : Int) == (z : Int)) = false := by
                  have : ¬ (y : Int) = (z : Int) := by omega
                  simpa using this
                refine wp_region_quiet_below (by kernel_rfl) (by kernel_rfl) ?_
                repeat (first | go_big_quiet_step (fail) | quiet_step (fail))
                refine wpQuiet_nil ?_
                intro _ hw'
                obtain ⟨⟨dq2, osq2⟩, hw''⟩ := hw'
                subst hw''
                have b11 := below_regrown w7 dq2 osq2
                generalize grow (redrawn w7 dq2) osq2 = w8 at *
                clear g1 g2 g3 g4
                go_wp2_with fail
                go_meet
                case rel => exact ⟨false, Ty.k, ⟨25, false, 0, ⟨#[]⟩, ⟨#[]⟩, ⟨#[]⟩, some ⟨g, 0, none⟩, 3, cap⟩, .mk 25 false 0 [] [] [] [thT[x]'hx6, thT[y]'hy6, thT[z]'hz6], Ty, rfl, rfl, kept_of_below b11 (unhide HV9), (unhide HND).lift b11, dep_three hx6 hy6 hz6, sl_three hx6 hy6 hz6, (unhide HT25).trans (by simp [hx0, hyz]), fun _ => rfl, b57.trans (b11.mono (by have := b57.size; omega))⟩
            · have gx0 : ((x : Int) == 0) = false := by
                have : ¬ (x : Int) = 0 := by omega
                simpa using this
              refine wp_region_quiet_below (by kernel_rfl) (by kernel_rfl) ?_
              repeat (first | go_big_quiet_step (fail) | quiet_step (fail))
              refine wpQuiet_nil ?_
              intro _ hw'
              obtain ⟨⟨dq2, osq2⟩, hw''⟩ := hw'
              subst hw''
              have b11 := below_regrown w7 dq2 osq2
              generalize grow (redrawn w7 dq2) osq2 = w8 at *
              clear g1 g2 g3 g4
              go_wp2_with fail
              go_meet
              case rel => exact ⟨false, Ty.k, ⟨25, false, 0, ⟨#[]⟩, ⟨#[]⟩, ⟨#[]⟩, some ⟨g, 0, none⟩, 3, cap⟩, .mk 25 false 0 [] [] [] [thT[x]'hx6, thT[y]'hy6, thT[z]'hz6], Ty, rfl, rfl, kept_of_below b11 (unhide HV9), (unhide HND).lift b11, dep_three hx6 hy6 hz6, sl_three hx6 hy6 hz6, (unhide HT25).trans (by simp [hx0]), fun _ => rfl, b57.trans (b11.mono (by have := b57.size; omega))⟩
    case rest =>
      rename World => wA
      rename_i s12 s13
      obtain ⟨ok, want, q, nd, T, rfl, rfl, hVq, hnd, hdep, hsl, htyp, hwant, bA⟩ := hcut
      have b0A := b04.trans (bA.mono (by have := b02.size; omega))
      obtain ⟨bY, zY, y1, y2⟩ := alloc2 wA (.cells #[.string ⟨#[65]⟩, .slice none 0 0, .slice none 0 0] 84) (.cells #[.slice (some ⟨wA.heap.size, 0, none⟩) 1 1, .slice none 0 0] 33)
      clear zY
      have hVy := kept_of_below bY hVq
      have hndy := hnd.lift bY
      have hSy : IsS ((wA.alloc (.cells #[.string ⟨#[65]⟩, .slice none 0 0, .slice none 0 0] 84)).alloc (.cells #[.slice (some ⟨wA.heap.size, 0, none⟩) 1 1, .slice none 0 0] 33)) (.agg #[.slice (some ⟨wA.heap.size, 0, none⟩) 1 1, .slice none 0 0]) opS := isS_op y1
      have C := yOf_any opS ⟨#[65]⟩ ⟨#[]⟩ ⟨#[65]⟩ sm_op 10 nd hdep hsl _ q _ hSy hndy
      rw [htyp] at C
      obtain ⟨⟨⟨Xk, Xo, Xn⟩, Xe⟩, hXR⟩ : ∃ XR : TR, XR = (if ok then (T, 0) else (zT, 16)) := ⟨_, rfl⟩
      rw [← hXR] at C
      unfold TR.ret at C
      simp only at C
      have b0Y := b0A.trans (bY.mono b0A.size)
      clear hnd hndy hdep hsl htyp hVq hSy
      go_upto_region 32 with fail
      generalize (wA.alloc _).alloc _ = wB at *
      have s0 : wB.cell? ⟨wA.heap.size + 1, 0, none⟩ = some (.slice (some ⟨wA.heap.size, 0, none⟩) 1 1) := by rw [Lib.cell_of_heap y2]; rfl
      have s1 : wB.cell? ⟨wA.heap.size + 1, 1, none⟩ = some (.slice none 0 0) := by rw [Lib.cell_of_heap y2]; rfl
      have q0 : wB.cell? ⟨w2.heap.size + 4, 0, none⟩ = some (.int .i64 q.k) := by rw [Lib.cell_of_heap hVy]; rfl
      have q1 : wB.cell? ⟨w2.heap.size + 4, 1, none⟩ = some (.bool q.b) := by rw [Lib.cell_of_heap hVy]; rfl
      have q2 : wB.cell? ⟨w2.heap.size + 4, 2, none⟩ = some (.int .i64 q.n) := by rw [Lib.cell_of_heap hVy]; rfl
      have q3 : wB.cell? ⟨w2.heap.size + 4, 3, none⟩ = some (.string q.s) := by rw [Lib.cell_of_heap hVy]; rfl
      have q4 : wB.cell? ⟨w2.heap.size + 4, 4, none⟩ = some (.string q.t) := by rw [Lib.cell_of_heap hVy]; rfl
      have q5 : wB.cell? ⟨w2.heap.size + 4, 5, none⟩ = some (.string q.i) := by rw [Lib.cell_of_heap hVy]; rfl
      have q6 : wB.cell? ⟨w2.heap.size + 4, 6, none⟩ = some (.slice q.lo q.ll q.lc) := by rw [Lib.cell_of_heap hVy]; rfl
      cases ok
      · have hXe : Xk = 0 ∧ Xo = 0 ∧ Xn = ⟨#[]⟩ ∧ Xe = 16 := by
          have h : ((⟨Xk, Xo, Xn⟩ : T3), Xe) = (zT, 16) := hXR
          injection h with h1 h2
          injection h1 with h3 h4 h5
          exact ⟨h3, h4, h5, h2⟩
        obtain ⟨rfl, rfl, rfl, rfl⟩ := hXe
        clear hXR
        have BT := binEqlT3 zT zT
        rw [decide_eq_true rfl] at BT
        unfold zT at BT
        simp only at BT
        go_wp2_with fail
        refine C.mono ?_
        clear C s0 s1 q0 q1 q2 q3 q4 q5 q6
        rintro e9 wC ⟨rfl, bC⟩
        have b0C := b0Y.trans (bC.mono b0Y.size)
        have bD := blw1 wC (.cells #[.int .i64 0, .int .i64 0, .string ⟨#[]⟩] 54)
        have b0D := b0C.trans (bD.mono b0C.size)
        go_wp2
        go_ret
        exact ⟨rfl, b0D⟩
      · have hw := hwant rfl
        have h : ((⟨Xk, Xo, Xn⟩ : T3), Xe) = (T, 0) := hXR
        injection h with h1 h2
        subst h1 h2
        simp only at hw
        subst hw
        clear hXR hwant
        have kk : (Xk == Xk) = true := by simp
        go_wp2_with fail
        refine C.mono ?_
        clear C s0 s1 q0 q1 q2 q3 q4 q5 q6
        rintro e9 wC ⟨rfl, bC⟩
        have b0C := b0Y.trans (bC.mono b0Y.size)
        have bD := blw1 wC (.cells #[.int .i64 Xk, .int .i64 Xo, .string Xn] 54)
        have b0D := b0C.trans (bD.mono b0C.size)
        go_wp2
        go_ret
        exact ⟨rfl, b0D⟩
end Go.Proofs.Ytjajhmojcmfidaa
