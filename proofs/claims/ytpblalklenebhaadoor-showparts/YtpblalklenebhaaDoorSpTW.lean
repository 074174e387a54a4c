/-
  Plain: the trees that the law makes are such as may be, and not too great.
  Plain: what is shown of the kids stands in what is shown of the whole, one behind the other.
  chancellaw6.ShowParts: the walk.
-/
import Derived.Test.YtpblalklenebhaaDoorRwVX
import Derived.Test.YtpblalklenebhaaDoorShIK
import Derived.Test.YtpblalklenebhaaDoorRefQuote
namespace Go.Proofs.YtpblalklenebhaaDoor
open Go

mutual
def okR : Ex → Prop
  | .mk k _ n s t i l => (1 ≤ k ∧ k ≤ 25) ∧ (-9223372036854775808 ≤ n ∧ n ≤ 9223372036854775807) ∧ s.length ≤ 1000 ∧ t.length ≤ 1000 ∧ i.length ≤ 1000 ∧ (k ≠ 6 → l.length = wants k) ∧ l.length ≤ 100 ∧ (k = 3 ∨ k = 10 → bquote s = quoteL s) ∧ (k = 4 → bquote i = quoteL i) ∧ okRs l
def okRs : List Ex → Prop
  | [] => True
  | x :: l => okR x ∧ okRs l
end
theorem okRs_get : ∀ (l : List Ex) (j : Nat) (h : j < l.length), okRs l → okR l[j]
  | [], j, h, _ => by simp at h
  | e :: l, 0, _, h => by
    unfold okRs at h
    exact h.1
  | e :: l, j + 1, hj, h => by
    unfold okRs at h
    exact okRs_get l j (by simpa using hj) h.2
theorem okRs_of : ∀ (l : List Ex), (∀ x ∈ l, okR x) → okRs l
  | [], _ => by unfold okRs; trivial
  | x :: l, h => by
    unfold okRs
    exact ⟨h x (by simp), okRs_of l fun y hy => h y (by simp [hy])⟩
mutual
theorem okR_okS : ∀ (x : Ex), okR x → okS x = true
  | .mk k b n s t i l, h => by
    unfold okR at h
    obtain ⟨h1, h2, h3, h4, h5, h6, h7, _, _, h10⟩ := h
    have hw : wants k ≤ l.length := by
      by_cases hk : k = 6
      · rw [hk]; exact Nat.zero_le _
      · rw [h6 hk]; exact Nat.le_refl _
    unfold okS
    rw [decide_eq_true h1, decide_eq_true h2, decide_eq_true (show s.length ≤ 1000000000 by omega), decide_eq_true (show t.length ≤ 1000000000 by omega), decide_eq_true (show i.length ≤ 1000000000 by omega), decide_eq_true hw, decide_eq_true (show l.length ≤ 100000 by omega), okRs_okSs l h10]
    rfl
theorem okRs_okSs : ∀ (l : List Ex), okRs l → okSs l = true
  | [], _ => by unfold okSs; rfl
  | x :: l, h => by
    unfold okRs at h
    unfold okSs
    rw [okR_okS x h.1, okRs_okSs l h.2]
    rfl
end

theorem idt5_len (s : List Int) : (idt5 s).length ≤ 160 := txt_len _
theorem idt5_quote (s : List Int) : bquote (idt5 s) = quoteL (idt5 s) := bquote_ofL _ (picks_ok _)
theorem nmI_len (n : Int) : (nmI n).length ≤ 9 := by
  have h : ∀ m : Fin 7, (nm7.getD m.val []).length ≤ 9 := by decide
  exact h ⟨(n % 7).toNat, by omega⟩
theorem tyI5_len (n : Int) : (tyI5 n).length ≤ 9 := by
  have h : ∀ m : Fin 5, (ty5.getD m.val []).length ≤ 9 := by decide
  exact h ⟨(n % 5).toNat, by omega⟩
theorem vrI_len (n : Int) : (vrI n).length ≤ 9 := by
  have h : ∀ m : Fin 3, (vr3.getD m.val []).length ≤ 9 := by decide
  exact h ⟨(n % 3).toNat, by omega⟩
theorem leaf_okR (k n : Int) (s : List Int) : okR (leafX k n s) := by
  unfold leafX
  repeat' split
  · unfold eBool okR okRs; exact ⟨by decide, by decide, by decide, by decide, by decide, fun _ => rfl, by decide, fun h => by omega, fun h => by omega, trivial⟩
  · unfold eLong okR okRs; exact ⟨by decide, by omega, by decide, by decide, by decide, fun _ => rfl, by decide, fun h => by omega, fun h => by omega, trivial⟩
  · unfold eStr okR okRs; exact ⟨by decide, by decide, by have := idt5_len s; omega, by decide, by decide, fun _ => rfl, by decide, fun _ => idt5_quote s, fun h => by omega, trivial⟩
  · unfold eUid okR okRs; exact ⟨by decide, by decide, by decide, by have := tyI5_len n; omega, by have := idt5_len s; omega, fun _ => rfl, by decide, fun h => by omega, fun _ => idt5_quote s, trivial⟩
  · unfold eVar okR okRs; exact ⟨by decide, by decide, by have := vrI_len n; omega, by decide, by decide, fun _ => rfl, by decide, fun h => by omega, fun h => by omega, trivial⟩
  · unfold eOp okR okRs; exact ⟨by decide, by decide, by decide, by decide, by decide, fun h => absurd rfl h, by decide, fun h => by omega, fun h => by omega, trivial⟩
theorem arS_len (k n : Int) (s : List Int) : (arS k n s).length ≤ 160 := by
  unfold arS
  split
  · have := nmI_len n; omega
  · split
    · exact idt5_len s
    · simp
theorem arN_wants (k : Int) (n : Nat) (h : 6 ≤ k ∧ k ≤ 25) : (k ≠ 6 → arN k n = wants k) ∧ arN k n ≤ 8 := by
  unfold arN wants
  by_cases h6 : k = 6
  · rw [if_pos h6]
    exact ⟨fun h => absurd h6 h, by omega⟩
  · rw [if_neg h6]
    by_cases h1 : k = 7 ∨ k = 8 ∨ k = 10 ∨ k = 11 ∨ k = 12
    · rw [if_pos h1, if_pos h1]; exact ⟨fun _ => rfl, by omega⟩
    · rw [if_neg h1, if_neg h1]
      by_cases h2 : k = 25
      · rw [if_pos h2, if_neg (by omega), if_pos h2]; exact ⟨fun _ => rfl, by omega⟩
      · rw [if_neg h2, if_pos (by omega)]; exact ⟨fun _ => rfl, by omega⟩
theorem kidsX_len (d : Nat) (l : List Rw) (j : Nat) : (kidsX d l j).length = j := by unfold kidsX; simp
theorem kidsX_mem {d : Nat} {l : List Rw} {j : Nat} {x : Ex} (h : x ∈ kidsX d l j) : ∃ y, x = treeX d y := by
  unfold kidsX at h
  obtain ⟨i, _, rfl⟩ := List.mem_map.1 h
  exact ⟨_, rfl⟩
theorem tree_node (d : Nat) (op n : Int) (s : List Int) (l : List Rw) : treeX (d + 1) (.mk op n s l) = if d = 0 ∨ l.length = 0 then leafX (op % 6) n s else .mk (6 + op % 20) false 0 (arS (6 + op % 20) n s) [] [] (kidsX d l (arN (6 + op % 20) l.length)) := by
  rw [treeX]
  rfl
theorem tree_okR : ∀ (d : Nat) (x : Rw), okR (treeX d x) := by
  intro d
  induction d with
  | zero =>
    intro x
    obtain ⟨op, n, s, l⟩ := x
    exact leaf_okR _ _ _
  | succ d ih =>
    intro x
    obtain ⟨op, n, s, l⟩ := x
    rw [tree_node]
    split
    · exact leaf_okR _ _ _
    · have hk : 6 ≤ 6 + op % 20 ∧ 6 + op % 20 ≤ 25 := by omega
      obtain ⟨h1, h2⟩ := arN_wants (6 + op % 20) l.length hk
      unfold okR
      refine ⟨by omega, by decide, by have := arS_len (6 + op % 20) n s; omega, by decide, by decide, fun h => by rw [kidsX_len]; exact h1 h, by rw [kidsX_len]; omega, fun h => ?_, fun h => by omega, okRs_of _ fun y hy => ?_⟩
      · have h10 : 6 + op % 20 = 10 := by omega
        rw [h10]
        show bquote (idt5 s) = quoteL (idt5 s)
        exact idt5_quote s
      · obtain ⟨z, rfl⟩ := kidsX_mem hy
        exact ih z
theorem depL_le : ∀ (l : List Ex) (m : Nat), (∀ x ∈ l, depE x ≤ m) → depL l ≤ m
  | [], m, _ => by unfold depL; exact Nat.zero_le _
  | x :: l, m, h => by
    unfold depL
    exact Nat.max_le.2 ⟨h x (by simp), depL_le l m fun y hy => h y (by simp [hy])⟩
theorem leaf_dep (k n : Int) (s : List Int) : depE (leafX k n s) = 1 := by
  unfold leafX
  repeat' split
  all_goals
    first | unfold eBool | unfold eLong | unfold eStr | unfold eUid | unfold eVar | unfold eOp
    unfold depE depL
    rfl
theorem tree_dep : ∀ (d : Nat) (x : Rw), depE (treeX d x) ≤ d + 1 := by
  intro d
  induction d with
  | zero =>
    intro x
    obtain ⟨op, n, s, l⟩ := x
    show depE (leafX (op % 6) n s) ≤ 1
    rw [leaf_dep]
    exact Nat.le_refl _
  | succ d ih =>
    intro x
    obtain ⟨op, n, s, l⟩ := x
    rw [tree_node]
    split
    · rw [leaf_dep]; omega
    · unfold depE
      have := depL_le (kidsX d l (arN (6 + op % 20) l.length)) (d + 1) fun y hy => by
        obtain ⟨z, rfl⟩ := kidsX_mem hy
        exact ih z
      omega

/-- How long a tree's text may be. -/
def bd : Nat → Nat
  | 0 => 1000
  | d + 1 => 8 * bd d + 1200
theorem bd_ge (d : Nat) : 1000 ≤ bd d := by
  induction d with
  | zero => exact Nat.le_refl _
  | succ d ih => unfold bd; omega
theorem decD_len : ∀ (m u : Nat), u < 10 ^ (m + 1) → (Lib.decDigits u).length ≤ m + 1
  | 0, u, h => by
    rw [Lib.decDigits, dif_pos (by simpa using h)]
    exact Nat.le_refl _
  | m + 1, u, h => by
    rw [Lib.decDigits]
    split
    · simp
    · have := decD_len m (u / 10) (by rw [Nat.div_lt_iff_lt_mul (by decide)]; rw [Nat.pow_succ] at h; exact h)
      rw [List.length_append]
      simp only [List.length_cons, List.length_nil]
      omega
theorem itoa_len (n : Int) (h0 : 0 ≤ n) (h1 : n ≤ 4611686018427387904) : (Lib.itoa n).length ≤ 1000 := by
  unfold Lib.itoa
  rw [if_neg (by omega)]
  have h : n.toNat < 10 ^ (19 + 1) := by
    rw [show (10 : Nat) ^ (19 + 1) = 100000000000000000000 from rfl]
    omega
  have := decD_len 19 n.toNat h
  omega
theorem leaf_len (k n : Int) (s : List Int) : (showE (leafX k n s)).length ≤ 1000 := by
  have h1 := quoteL_len (idt5 s)
  have h2 := idt5_len s
  unfold leafX
  repeat' split
  · unfold eBool; rw [showE]; simp only [bodyE, reduceIte]; split <;> decide
  · unfold eLong; rw [showE]; simp only [bodyE, reduceIte, Int.reduceEq]; exact itoa_len _ (by omega) (by omega)
  · unfold eStr; rw [showE]; simp only [bodyE, reduceIte, Int.reduceEq]; omega
  · unfold eUid; rw [showE]; simp only [bodyE, reduceIte, Int.reduceEq]; have := tyI5_len n; simp; omega
  · unfold eVar; rw [showE]; simp only [bodyE, reduceIte, Int.reduceEq]; have := vrI_len n; omega
  · unfold eOp; rw [showE]; simp only [bodyE, reduceIte, Int.reduceEq]; decide
theorem kidT_le (l : List Ex) (j : Nat) (a : Int) (B : Nat) (h : ∀ x ∈ l, (showE x).length ≤ B) : (kidT (showL l) j a).length ≤ B + 2 := by
  by_cases hj : j < l.length
  · rw [kidT_showL l j hj]
    have h1 := brk_len (decide (lev (opE l[j]) < a)) (showE l[j])
    have h2 := h l[j] (List.getElem_mem hj)
    omega
  · rw [kidT_none l j hj]
    simp
theorem sumL_bd : ∀ (l : List Ex) (B : Nat), (∀ x ∈ l, (showE x).length ≤ B) → sumL (textsL l) ≤ l.length * B
  | [], B, _ => by simp [sumL, textsL]
  | x :: l, B, h => by
    have h1 := sumL_bd l B fun y hy => h y (by simp [hy])
    have h2 := h x (by simp)
    unfold sumL textsL at h1 ⊢
    simp only [List.map_cons, List.sum_cons, List.length_cons]
    rw [Nat.add_mul]
    omega
theorem body_len (k : Int) (S : List UInt8) (l : List Ex) (B : Nat) (hk : 6 ≤ k ∧ k ≤ 25) (hS : S.length ≤ 160) (hl : l.length ≤ 8) (hB : 1000 ≤ B) (h : ∀ x ∈ l, (showE x).length ≤ B) : (bodyE k false 0 S [] [] (showL l)).length ≤ 8 * B + 1200 := by
  have t0 := fun a => kidT_le l 0 a B h
  have t1 := fun a => kidT_le l 1 a B h
  have t2 := fun a => kidT_le l 2 a B h
  by_cases h13 : 13 ≤ k ∧ k ≤ 24
  · rw [body_two k _ _ _ _ _ _ h13.1 h13.2]
    simp only [List.length_append, List.length_cons, List.length_nil]
    have := sgnO_len k
    have := t0 (firstL k)
    have := t1 (lev k + 1)
    omega
  · have hc : k = 6 ∨ k = 7 ∨ k = 8 ∨ k = 9 ∨ k = 10 ∨ k = 11 ∨ k = 12 ∨ k = 25 := by omega
    have hq := quoteL_len S
    rcases hc with rfl | rfl | rfl | rfl | rfl | rfl | rfl | rfl
    all_goals simp only [bodyE, reduceIte, Int.reduceEq, List.length_append, List.length_cons, List.length_nil]
    · rw [showL_texts]
      rcases Nat.eq_zero_or_pos (textsL l).length with h0 | h0
      · rw [List.length_eq_zero_iff.1 h0]; simp [joinS]
      · rw [joinS_len _ _ h0]
        have h1 := sumL_bd l B h
        have h2 : (textsL l).length = l.length := by simp [textsL]
        have h3 : l.length * B ≤ 8 * B := Nat.mul_le_mul_right B hl
        simp only [List.length_cons, List.length_nil]
        omega
    · have := t0 7; omega
    · have := t0 4; omega
    · have := t0 7; have := t1 0; omega
    · have := t0 4; omega
    · have := t0 6; omega
    · have := t0 6; omega
    · have := t0 0; have := t1 0; have := t2 0; omega
theorem tree_len : ∀ (d : Nat) (x : Rw), (showE (treeX d x)).length ≤ bd d := by
  intro d
  induction d with
  | zero =>
    intro x
    obtain ⟨op, n, s, l⟩ := x
    exact leaf_len _ _ _
  | succ d ih =>
    intro x
    obtain ⟨op, n, s, l⟩ := x
    rw [tree_node]
    have hb := bd_ge d
    split
    · have := leaf_len (op % 6) n s
      unfold bd
      omega
    · rw [showE]
      have hk : 6 ≤ 6 + op % 20 ∧ 6 + op % 20 ≤ 25 := by omega
      exact body_len _ _ _ _ hk (arS_len _ _ _) (by rw [kidsX_len]; exact (arN_wants _ _ hk).2) hb fun y hy => by
        obtain ⟨z, rfl⟩ := kidsX_mem hy
        exact ih z
end Go.Proofs.YtpblalklenebhaaDoor

namespace Go.Proofs.YtpblalklenebhaaDoor
open Go

/-- The texts stand in a text, one behind the other. -/
def Inter : List (List UInt8) → List UInt8 → Prop
  | [], _ => True
  | p :: ps, t => ∃ a b, t = a ++ (p ++ b) ∧ Inter ps b
theorem Inter.pre (a : List UInt8) : ∀ (ps : List (List UInt8)) {b : List UInt8}, Inter ps b → Inter ps (a ++ b)
  | [], _, _ => trivial
  | p :: ps, _, ⟨a', b', e, h⟩ => ⟨a ++ a', b', by rw [e]; simp, h⟩
theorem Inter.of {ps : List (List UInt8)} {t t' : List UInt8} (h : Inter ps t') (e : t = t') : Inter ps t := e ▸ h
theorem Inter.kid {ps : List (List UInt8)} {b : List UInt8} (a : List UInt8) (c : Bool) (p : List UInt8) (h : Inter ps b) : Inter (p :: ps) (a ++ (brk c p ++ b)) := by
  unfold brk
  cases c
  · exact ⟨a, b, by simp, h⟩
  · exact ⟨a ++ [40], [41] ++ b, by simp, Inter.pre [41] ps h⟩
theorem Inter.none (t : List UInt8) : Inter [] t := trivial
theorem inter_flat (z b : List UInt8) : ∀ (l : List (List UInt8)), Inter l (l.flatMap (fun t => z ++ t) ++ b)
  | [] => trivial
  | s :: l => ⟨z, l.flatMap (fun t => z ++ t) ++ b, by simp, inter_flat z b l⟩
theorem inter_join (z b : List UInt8) (l : List (List UInt8)) : Inter l (joinS z l ++ b) := by
  cases l with
  | nil => exact Inter.none _
  | cons s l => exact ⟨[], l.flatMap (fun t => z ++ t) ++ b, by simp [joinS], inter_flat z b l⟩
theorem kid0T (x : Ex) (l : List Ex) (a : Int) : kidT (showL (x :: l)) 0 a = brk (decide (lev (opE x) < a)) (showE x) := kidT_showL (x :: l) 0 (by simp) a
theorem kid1T (x y : Ex) (l : List Ex) (a : Int) : kidT (showL (x :: y :: l)) 1 a = brk (decide (lev (opE y) < a)) (showE y) := kidT_showL (x :: y :: l) 1 (by simp) a
theorem kid2T (x y z : Ex) (l : List Ex) (a : Int) : kidT (showL (x :: y :: z :: l)) 2 a = brk (decide (lev (opE z) < a)) (showE z) := kidT_showL (x :: y :: z :: l) 2 (by simp) a

theorem inter_body (k : Int) (b : Bool) (n : Int) (s t i : List UInt8) (l : List Ex) (hk : 1 ≤ k ∧ k ≤ 25) (hl : k ≠ 6 → l.length = wants k) : Inter (textsL l) (bodyE k b n s t i (showL l)) := by
  by_cases h6 : k = 6
  · subst h6
    simp only [bodyE, reduceIte, Int.reduceEq]
    rw [showL_texts, List.append_assoc]
    exact Inter.pre _ _ (inter_join _ _ _)
  have hw := hl h6
  by_cases h0 : k < 6
  · have : wants k = 0 := by unfold wants; rw [if_neg (by omega), if_neg (by omega), if_neg (by omega)]
    rw [this] at hw
    rw [List.length_eq_zero_iff.1 hw]
    exact Inter.none _
  by_cases h13 : 13 ≤ k ∧ k ≤ 24
  · have : wants k = 2 := by unfold wants; rw [if_neg (by omega), if_pos (by omega)]
    rw [this] at hw
    obtain ⟨x, y, rfl⟩ : ∃ x y, l = [x, y] := by
      match l, hw with
      | [x, y], _ => exact ⟨x, y, rfl⟩
    rw [body_two k _ _ _ _ _ _ h13.1 h13.2, kid0T, kid1T]
    generalize decide (lev (opE x) < _) = c
    generalize decide (lev (opE y) < _) = c'
    refine (Inter.kid [] c (showE x) (Inter.kid ([32] ++ sgnO k ++ [32]) c' (showE y) (Inter.none []))).of ?_
    simp
  have hc : k = 7 ∨ k = 8 ∨ k = 9 ∨ k = 10 ∨ k = 11 ∨ k = 12 ∨ k = 25 := by omega
  have one : wants k = 1 → ∃ x, l = [x] := fun h => by
    rw [h] at hw
    match l, hw with
    | [x], _ => exact ⟨x, rfl⟩
  have two : wants k = 2 → ∃ x y, l = [x, y] := fun h => by
    rw [h] at hw
    match l, hw with
    | [x, y], _ => exact ⟨x, y, rfl⟩
  have three : wants k = 3 → ∃ x y z, l = [x, y, z] := fun h => by
    rw [h] at hw
    match l, hw with
    | [x, y, z], _ => exact ⟨x, y, z, rfl⟩
  rcases hc with rfl | rfl | rfl | rfl | rfl | rfl | rfl
  · obtain ⟨x, rfl⟩ := one rfl
    simp only [bodyE, reduceIte, Int.reduceEq]
    rw [kid0T]
    generalize decide (lev (opE x) < _) = c
    exact (Inter.kid [] c (showE x) (Inter.none ([46] ++ s))).of (by simp)
  · obtain ⟨x, rfl⟩ := one rfl
    simp only [bodyE, reduceIte, Int.reduceEq]
    rw [kid0T]
    generalize decide (lev (opE x) < _) = c
    exact (Inter.kid [] c (showE x) (Inter.none ([32, 104, 97, 115, 32] ++ s))).of (by simp)
  · obtain ⟨x, y, rfl⟩ := two rfl
    simp only [bodyE, reduceIte, Int.reduceEq]
    rw [kid0T, kid1T]
    generalize decide (lev (opE x) < _) = c
    generalize decide (lev (opE y) < _) = c'
    refine (Inter.kid [] c (showE x) (Inter.kid [46, 99, 111, 110, 116, 97, 105, 110, 115, 40] c' (showE y) (Inter.none [41]))).of ?_
    simp
  · obtain ⟨x, rfl⟩ := one rfl
    simp only [bodyE, reduceIte, Int.reduceEq]
    rw [kid0T]
    generalize decide (lev (opE x) < _) = c
    exact (Inter.kid [] c (showE x) (Inter.none ([32, 108, 105, 107, 101, 32] ++ quoteL s))).of (by simp)
  · obtain ⟨x, rfl⟩ := one rfl
    simp only [bodyE, reduceIte, Int.reduceEq]
    rw [kid0T]
    generalize decide (lev (opE x) < _) = c
    exact (Inter.kid [33] c (showE x) (Inter.none [])).of (by simp)
  · obtain ⟨x, rfl⟩ := one rfl
    simp only [bodyE, reduceIte, Int.reduceEq]
    rw [kid0T]
    generalize decide (lev (opE x) < _) = c
    exact (Inter.kid [45] c (showE x) (Inter.none [])).of (by simp)
  · obtain ⟨x, y, z, rfl⟩ := three rfl
    simp only [bodyE, reduceIte, Int.reduceEq]
    rw [kid0T, kid1T, kid2T]
    generalize decide (lev (opE x) < _) = c
    generalize decide (lev (opE y) < _) = c'
    generalize decide (lev (opE z) < _) = c2
    refine (Inter.kid [105, 102, 32] c (showE x) (Inter.kid [32, 116, 104, 101, 110, 32] c' (showE y) (Inter.kid [32, 101, 108, 115, 101, 32] c2 (showE z) (Inter.none [])))).of ?_
    simp
theorem inter_show (k : Int) (b : Bool) (n : Int) (s t i : List UInt8) (l : List Ex) (h : okR (.mk k b n s t i l)) : Inter (textsL l) (showE (.mk k b n s t i l)) := by
  unfold okR at h
  rw [showE]
  exact inter_body k b n s t i l h.1 h.2.2.2.2.2.1

theorem inter_step {p : List UInt8} {ps : List (List UInt8)} {t : List UInt8} {a : Nat} (h : Inter (p :: ps) (t.drop a)) (ha : a ≤ t.length) : ∃ K, a ≤ K ∧ K + p.length ≤ t.length ∧ (t.drop K).take p.length = p ∧ Inter ps (t.drop (K + p.length)) := by
  obtain ⟨x, b, e, h⟩ := h
  have hl : t.length - a = x.length + (p.length + b.length) := by rw [← List.length_drop, e]; simp
  have e1 : t.drop (a + x.length) = p ++ b := by rw [← List.drop_drop, e]; simp
  refine ⟨a + x.length, by omega, by omega, by rw [e1]; simp, ?_⟩
  rw [← List.drop_drop, e1]
  simpa using h
theorem inter_from {ps : List (List UInt8)} {t : List UInt8} {K k m : Nat} (h : Inter ps (t.drop (K + m))) (hk : k ≤ K) : Inter ps (t.drop (k + m)) := by
  have e : t.drop (k + m) = (t.drop (k + m)).take (K - k) ++ t.drop (K + m) := by
    have h1 : t.drop (K + m) = (t.drop (k + m)).drop (K - k) := by rw [List.drop_drop]; congr 1; omega
    rw [h1, List.take_append_drop]
  rw [e]
  exact Inter.pre _ _ h

theorem decD_pos (u : Nat) : 0 < (Lib.decDigits u).length := by
  rw [Lib.decDigits]
  split <;> simp
theorem leaf_pos (k n : Int) (s : List Int) : 0 < (showE (leafX k n s)).length := by
  unfold leafX
  repeat' split
  · unfold eBool; rw [showE]; simp only [bodyE, reduceIte]; split <;> decide
  · unfold eLong; rw [showE]; simp only [bodyE, reduceIte, Int.reduceEq]; unfold Lib.itoa; split
    · simp
    · exact decD_pos _
  · unfold eStr; rw [showE]; simp only [bodyE, reduceIte, Int.reduceEq]; unfold quoteL; simp
  · unfold eUid; rw [showE]; simp only [bodyE, reduceIte, Int.reduceEq]; simp; omega
  · unfold eVar; rw [showE]; simp only [bodyE, reduceIte, Int.reduceEq]
    have h : ∀ m : Fin 3, 0 < (vr3.getD m.val []).length := by decide
    exact h ⟨(n % 3).toNat, by omega⟩
  · unfold eOp; rw [showE]; simp only [bodyE, reduceIte, Int.reduceEq]; simp
theorem body_pos (k : Int) (S : List UInt8) (ks : List (Int × List UInt8)) (hk : 6 ≤ k ∧ k ≤ 25) : 0 < (bodyE k false 0 S [] [] ks).length := by
  by_cases h13 : 13 ≤ k ∧ k ≤ 24
  · rw [body_two k _ _ _ _ _ _ h13.1 h13.2]
    simp only [List.length_append, List.length_cons, List.length_nil]
    omega
  · have hc : k = 6 ∨ k = 7 ∨ k = 8 ∨ k = 9 ∨ k = 10 ∨ k = 11 ∨ k = 12 ∨ k = 25 := by omega
    rcases hc with rfl | rfl | rfl | rfl | rfl | rfl | rfl | rfl
    all_goals
      simp only [bodyE, reduceIte, Int.reduceEq, List.length_append, List.length_cons, List.length_nil]
      omega
theorem tree_pos (d : Nat) (x : Rw) : 0 < (showE (treeX d x)).length := by
  obtain ⟨op, n, s, l⟩ := x
  cases d with
  | zero => exact leaf_pos _ _ _
  | succ d =>
    rw [tree_node]
    split
    · exact leaf_pos _ _ _
    · rw [showE]
      exact body_pos _ _ _ (by omega)
theorem bd8 : bd 8 ≤ 10000000000000 := by decide
end Go.Proofs.YtpblalklenebhaaDoor

namespace Go.Proofs.YtpblalklenebhaaDoor
open Go.RowKit Go.Sort

theorem part_at {tt p : List UInt8} {K : Nat} (h2 : (tt.drop K).take p.length = p) : (ba tt).extract K (K + (ba p).size) = ba p := by
  apply ByteArray.ext
  apply Array.toList_inj.1
  rw [extract_list, show K + (ba p).size - K = p.length by rw [show (ba p).size = p.length from rfl]; omega]
  exact h2
theorem ba_ne {G P : ByteArray} (h : ¬ G = P) : (G.toList == P.toList) = false := by
  rw [beq_eq_false_iff_ne]
  intro e
  rw [ByteArray.toList_eq, ByteArray.toList_eq] at e
  exact h (ByteArray.ext (Array.toList_inj.1 e))

set_option maxHeartbeats 4000000 in
set_option maxRecDepth 1000000 in
theorem parts_walk (r : R4) (x : Rw) (w : World) (hT : Tab6 w) (hx : IsR w r x) : Calls Tryd.prog 5 #[r.val] w fun e w' => e = .returned (.bool true) ∧ Below w.heap.size w w' := by
  have n1 := newS w (.cells #[.int .i64 r.op, .int .i64 r.n, .slice r.so r.sl r.sc, .slice r.lo r.ll r.lc] 25)
  have Z1 : (w.alloc (.cells #[.int .i64 r.op, .int .i64 r.n, .slice r.so r.sl r.sc, .slice r.lo r.ll r.lc] 25)).heap[w.heap.size]? = some (.cells #[.int .i64 r.op, .int .i64 r.n, .slice r.so r.sl r.sc, .slice r.lo r.ll r.lc] 25 (0, 0)) := alloc_heap _ _
  have K := known6_any _ (hT.below n1)
  have F := fun w' (hb : Below w.heap.size w w') => few5_any (depR x) x r w' 80 (Nat.le_refl _) (IsR.below hb r x hx) (by decide) (by decide)
  have T := fun w' (hb : Below w.heap.size w w') => tree5_any 8 x r w' (by decide) (IsR.below hb r x hx)
  have hlen := Nat.le_trans (tree_len 8 x) bd8
  have hok := tree_okR 8 x
  have hdep := tree_dep 8 x
  have hpos := tree_pos 8 x
  generalize treeX 8 x = X at *
  generalize fewR x 80 = f at *
  have HS1 := hide (fun P => shows_all P 9 X hdep (okR_okS _ hok) hlen)
  have HT := hide hT
  clear hT hx
  unfold R4.val at F T ⊢
  by_cases hf : f = 0
  · subst hf
    clear hlen hok hdep hpos
    go_enter Tryd.func5, Tryd.ntmps5
    go_upto_region 1 with fail
    generalize w.alloc _ = w1 at *
    go_wp2_with fail
    refine K.mono ?_
    rintro e w2 ⟨rfl, b2⟩
    have b02 := n1.trans (b2.mono n1.size)
    obtain ⟨x0, x1, x2, x3, _⟩ := blk4 (kept_of_below b2 Z1)
    have F2 := F _ b02
    go_wp2_with fail
    refine F2.mono ?_
    rintro e w3 ⟨rfl, b3⟩
    go_wp2
    go_ret
    exact ⟨rfl, b02.trans (b3.mono b02.size)⟩
  · have hf' : (f == 0) = false := by simpa using hf
    obtain ⟨xk, xb, xn, xs, xt, xi, l⟩ := X
    have HI := hide (inter_show xk xb xn xs xt xi l hok)
    have HKid := hide (fun (P : Nat → Prop) (j : Nat) (hj : j < l.length) (hz : (showE l[j]).length ≤ 10000000000000) => shows_all P 9 l[j] (by
      have h1 := depL_get l j hj
      unfold depE at hdep
      omega) (okR_okS _ (okRs_get l j hj (by unfold okR at hok; exact hok.2.2.2.2.2.2.2.2.2))) hz)
    have hl100 : l.length ≤ 100 := by unfold okR at hok; exact hok.2.2.2.2.2.2.1
    have HX := hide (fun w' P q => @Eq.refl _ (IsE w' P q (.mk xk xb xn xs xt xi l)))
    clear hok hdep
    generalize hX : Ex.mk xk xb xn xs xt xi l = X at *
    have HXX := hide hX
    clear hX HX
    generalize hTT : showE X = TT at *
    have HTT := hide hTT
    clear hTT
    have hAs : (ba TT).size = TT.length := rfl
    go_enter Tryd.func5, Tryd.ntmps5
    go_upto_region 1 with fail
    generalize w.alloc _ = w1 at *
    go_wp2_with fail
    refine K.mono ?_
    rintro e w2 ⟨rfl, b2⟩
    have b02 := n1.trans (b2.mono n1.size)
    have Z2 := kept_of_below b2 Z1
    obtain ⟨x0, x1, x2, x3, _⟩ := blk4 Z2
    have F2 := F _ b02
    go_wp2_with fail
    refine F2.mono ?_
    rintro e w3 ⟨rfl, b3⟩
    have b03 := b02.trans (b3.mono b02.size)
    clear x0 x1 x2 x3 F2 F K
    obtain ⟨x0, x1, x2, x3, _⟩ := blk4 (kept_of_below b3 Z2)
    have T3 := T _ b03
    go_wp2_with fail
    refine T3.mono ?_
    rintro e w4 ⟨q, rfl, b4, hq⟩
    have b04 := b03.trans (b4.mono b03.size)
    have n5 := newS w4 (.cells #[.int .i64 q.k, .bool q.b, .int .i64 q.n, .string q.s, .string q.t, .string q.i, .slice q.lo q.ll q.lc] 32)
    have Z5 : (w4.alloc (.cells #[.int .i64 q.k, .bool q.b, .int .i64 q.n, .string q.s, .string q.t, .string q.i, .slice q.lo q.ll q.lc] 32)).heap[w4.heap.size]? = some (.cells #[.int .i64 q.k, .bool q.b, .int .i64 q.n, .string q.s, .string q.t, .string q.i, .slice q.lo q.ll q.lc] 32 (0, 0)) := alloc_heap _ _
    have b05 := b04.trans (n5.mono b04.size)
    have hq5 := IsE.turn n5.size (fun b hb hb2 => ⟨n5.block b hb2, hb⟩) q _ hq
    clear x0 x1 x2 x3 T3 T hq
    unfold R7.val
    go_upto_region 6 with fail
    generalize w4.alloc _ = w5 at *
    have C5 := unhide HS1 _ q w5 ((unhide HT).below b05) hq5
    rw [unhide HTT] at C5
    obtain ⟨y0, y1, y2, y3, y4, y5, y6, _⟩ := blk7 Z5
    unfold R7.val at C5
    have HQ := hide hq5
    clear hq5 n5 b4 b3 b2 n1 Z1 Z2
    go_wp2_with fail
    refine C5.mono ?_
    rintro e w6 ⟨rfl, b6⟩
    have b06 := b05.trans (b6.mono b05.size)
    clear C5 y0 y1 y2 y3 y4 y5 y6
    have hq := unhide HQ
    rw [← unhide HXX] at hq
    unfold IsE at hq
    obtain ⟨_, _, _, _, _, _, hll, hks⟩ := hq
    obtain ⟨qk, qb, qn, qs, qt, qi, qlo, qll, qlc⟩ := q
    dsimp only at hll hks Z5
    have HK := hide hks
    have Hll := hide hll
    clear HQ hks hll
    have hpos5 : 0 < (ba TT).size := hpos
    have hlen5 : (ba TT).size ≤ 10000000000000 := hlen
    have hq100 : qll ≤ 100 := by rw [unhide Hll]; exact hl100
    clear hlen hpos hl100
    go_wp2_with fail
    go_loopw [5, 6] (fun av iv wr => ∃ (j a : Nat), j ≤ qll ∧ iv = .int .i64 j ∧ av = .int .i64 a ∧ a ≤ (ba TT).size ∧ Below w5.heap.size w5 wr ∧ Hid (Inter ((textsL l).drop j) (TT.drop a))) (fun _ iv _ => qll - (intOf iv).toNat)
    case atStart => exact ⟨0, 0, Nat.zero_le _, rfl, rfl, Nat.zero_le _, b6, hide (unhide HI)⟩
    case round =>
      obtain ⟨j, a, hj, rfl, rfl, ha, hbw, HIn⟩ := hrel
      obtain ⟨y0, y1, y2, y3, y4, y5, y6, _⟩ := blk7 (kept_of_below hbw Z5)
      by_cases hlt : j < qll
      · have i1 : (j : Int) < (qll : Int) := by omega
        have hlt' : j < l.length := by rw [← unhide Hll]; exact hlt
        obtain ⟨K, k1, k2, k3, k4⟩ := inter_step (p := showE l[j]) (ps := (textsL l).drop (j + 1)) (t := TT) (a := a) (by
          have h := unhide HIn
          rw [List.drop_eq_getElem_cons (by simpa [textsL] using hlt')] at h
          simpa [textsL] using h) ha
        obtain ⟨rk, g, off, hlo, hg, h7, hxk⟩ := IsEs.get l 0 j hlt' (unhide HK)
        rw [Nat.zero_add] at h7
        have h7 := h7.below hbw hg
        have b0r := b05.trans (hbw.mono b05.size)
        have C3 := unhide HKid _ j hlt' (by have := hlen5; rw [hAs] at this; omega) rk wr ((unhide HT).below b0r) (IsE.turn hbw.size (fun b hb hb2 => ⟨hbw.block b hb2, hb⟩) rk _ hxk)
        have hPK := part_at k3
        rw [← hAs, show (showE l[j]).length = (ba (showE l[j])).size from rfl] at k2
        rw [show (showE l[j]).length = (ba (showE l[j])).size from rfl] at k4
        have HPK := hide hPK
        have HK4 := hide k4
        generalize ba (showE l[j]) = P at *
        generalize ba TT = A at *
        subst hlo
        unfold R7.val at C3
        obtain ⟨a0, a1, a2, a3, a4, a5, a6⟩ := h7
        clear hxk k3 k4 hPK hAs
        go_wp2_with fail
        refine C3.mono ?_
        rintro e w7 ⟨rfl, b7⟩
        have b57 := hbw.trans (b7.mono hbw.size)
        clear C3 a0 a1 a2 a3 a4 a5 a6 y0 y1 y2 y3 y4 y5 y6
        go_wp2_with fail
        go_loopw [8] (fun kv wr' => ∃ k : Nat, k ≤ K ∧ kv = .int .i64 k ∧ Below w5.heap.size w5 wr') (fun kv _ => K - (intOf kv).toNat)
        case atStart => exact ⟨a, k1, rfl, b57⟩
        case round =>
          obtain ⟨k, hk, rfl, hb8⟩ := hrel
          have i2 : (k : Int) + (P.size : Int) ≤ (A.size : Int) := by omega
          have i3 : ¬ (A.size : Int) < (k : Int) + (P.size : Int) := by omega
          have hsl0 : ∀ W, (Instr.slice 9 (.string A) (some (.int .i64 (k : Int))) (some (.int .i64 ((k : Int) + (P.size : Int)))) none).run Tryd.prog W = .ok (.string (A.extract k (k + P.size))) W := fun W => by
            have := run_slice_string W 9 A .i64 .i64 (k : Int) ((k : Int) + (P.size : Int)) Tryd.underlying9 (by omega) (by omega) (by omega)
            rw [this, Int.toNat_natCast, show ((k : Int) + (P.size : Int)).toNat = k + P.size by omega]
          by_cases hG : A.extract k (k + P.size) = P
          · rw [hG] at hsl0
            clear hG
            go_wp2
            go_roundw
            case rel => exact ⟨j + 1, k + P.size, hlt, by go_num, by go_num, by omega, hb8, hide (inter_from (unhide HK4) hk)⟩
            case measure =>
              simp only [intOf]
              omega
          · have hkK : k < K := by
              rcases Nat.lt_or_eq_of_le hk with h | h
              · exact h
              · exact absurd (by rw [h]; exact unhide HPK) hG
            generalize A.extract k (k + P.size) = G at *
            have hG2 := ba_ne hG
            go_wp2
            go_roundw
            case rel => exact ⟨k + 1, hkK, by go_num, hb8⟩
            case measure =>
              simp only [intOf]
              omega
      · obtain rfl : j = qll := by omega
        have i1 : ¬ (j : Int) < (j : Int) := by omega
        clear hAs
        generalize ba TT = A at *
        have i2 : (0 : Int) < (A.size : Int) := by omega
        go_wp2
        go_ret
        exact ⟨rfl, b05.trans (hbw.mono b05.size)⟩
end Go.Proofs.YtpblalklenebhaaDoor
