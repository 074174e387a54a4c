/-
  chancellaw10.SchemaFits: the walk.
-/
import Derived.Test.YtbcddjaecdoliaaSgE
import Derived.Test.YtbcddjaecdoliaaSjAC
import Derived.Test.YtbcddjaecdoliaaRwAL
import Derived.BigGuardPart
namespace Go.Proofs.Ytbcddjaecdoliaa
open Go.RowKit Go.Sort

theorem goodA_mem (l : List ByteArray) (as_ : List AP) (ns : List ByteArray) : ∀ a ∈ goodA l as_ ns, ∃ b ∈ as_, a = actG l b := by
  have h1 : ∀ (n : ByteArray) (t acc : List AP), (∀ k ∈ acc, ∃ b ∈ as_, k = actG l b) → (∀ k ∈ t, k ∈ as_) → ∀ k ∈ pickAs l n t acc, ∃ b ∈ as_, k = actG l b := by
    intro n t
    unfold pickAs
    induction t with
    | nil => intro acc h _; simpa using h
    | cons a t ih =>
      intro acc h ht
      simp only [List.foldl_cons]
      refine ih _ (fun k hk => ?_) (fun k hk => ht k (List.mem_cons_of_mem _ hk))
      unfold pickA at hk
      cases e : passA n acc a
      · rw [e] at hk
        cases e2 : fullA (actG l a)
        · rw [e2] at hk
          exact h k hk
        · rw [e2] at hk
          rcases List.mem_append.1 hk with hk | hk
          · exact h k hk
          · rw [List.mem_singleton.1 hk]
            exact ⟨a, ht a List.mem_cons_self, rfl⟩
      · rw [e] at hk
        exact h k hk
  have h2 : ∀ (ns : List ByteArray) (acc : List AP), (∀ k ∈ acc, ∃ b ∈ as_, k = actG l b) → ∀ k ∈ ns.foldl (fun acc n => pickAs l n as_ acc) acc, ∃ b ∈ as_, k = actG l b := by
    intro ns
    induction ns with
    | nil => intro acc h; simpa using h
    | cons a t ih =>
      intro acc h
      simp only [List.foldl_cons]
      exact ih _ (h1 a as_ acc h (fun k hk => hk))
  exact h2 ns [] (fun k hk => absurd hk List.not_mem_nil)
/-- How much there is of a good schema at most. -/
structure Few10 (s : SP) : Prop where
  ks : s.ks.length ≤ 20
  ac : s.ac.length ≤ 15
  k : ∀ k ∈ s.ks, k.ps.length ≤ 3 ∧ k.fs.length ≤ 4
  a : ∀ a ∈ s.ac, a.pr.length ≤ 4 ∧ a.re.length ≤ 4 ∧ a.nm.size ≤ 100
theorem few_good {X : SP} (h : Tiny X) : Few10 (goodS X) := by
  refine ⟨?_, ?_, fun k hk => ?_, fun a ha => ?_⟩
  · unfold goodS
    rw [List.length_map]
    exact good1_len X.ks h.ks names4 4 (by decide)
  · exact goodA_len _ X.ac h.ac acts3 3 (by decide)
  · obtain ⟨b, hb, rfl⟩ := List.mem_map.1 hk
    have h1 := h.k b (good1_mem X.ks names4 b hb)
    have h2 := thoseL_len (goodNs X.ks) b.ps
    have h3 := fieldsG_len (goodNs X.ks) b.nm b.fs
    show (thoseL (goodNs X.ks) b.ps).length ≤ 3 ∧ (fieldsG (goodNs X.ks) b.nm b.fs).length ≤ 4
    omega
  · obtain ⟨b, hb, rfl⟩ := goodA_mem _ _ _ a ha
    have h1 := h.a b hb
    have h2 := thoseL_len (goodNs X.ks) b.pr
    have h3 := thoseL_len (goodNs X.ks) b.re
    show (thoseL (goodNs X.ks) b.pr).length ≤ 4 ∧ (thoseL (goodNs X.ks) b.re).length ≤ 4 ∧ b.nm.size ≤ 100
    omega
theorem noneB_next (l : List ByteArray) (n : ByteArray) (i : Nat) (h : i < l.length) : noneB (l.take (i + 1)) n = (noneB (l.take i) n && !decide (l[i] = n)) := by
  unfold noneB
  rw [List.take_succ_eq_append_getElem h, List.any_append]
  simp
/-- What is found of an action's name, in short. -/
def FitsOf (s : SP) (n : ByteArray) (is : Bool) (A : AP) : Prop := (is = true ∧ actOf s n = some A) ∨ (is = false ∧ actOf s n = none)
theorem found_act {s : SP} {n : ByteArray} {e : Ending} {w w' : World} (h : FoundA s n e w') (_hb : Below w.heap.size w w') (hs : Few10 s) : ∃ (x : N3) (is : Bool) (A : AP), e = .returned (.tuple #[.agg #[.string x.nm, .slice x.ao x.al x.ac, .slice x.bo x.bl x.bc], .bool is]) ∧ IsA w' x A ∧ FitsOf s n is A ∧ A.pr.length ≤ 4 ∧ A.re.length ≤ 4 := by
  rcases h with ⟨h1, h2⟩ | ⟨i, hi, x, h1, h3, h4⟩
  · refine ⟨zN3, false, ⟨⟨#[]⟩, [], []⟩, h2, ⟨rfl, rfl, rowG_nil _ _ _, rfl, rowG_nil _ _ _⟩, .inr ⟨rfl, ?_⟩, by simp, by simp⟩
    rcases actOf_place (s := s) (n := n) (z := -1) (.inl ⟨rfl, h1⟩) with ⟨_, h⟩ | ⟨i, _, e, _⟩
    · exact h
    · omega
  · have ha := hs.a s.ac[i] (List.getElem_mem hi)
    refine ⟨x, true, s.ac[i], h4, h3, .inl ⟨rfl, ?_⟩, ha.1, ha.2.1⟩
    rcases actOf_place h1 with ⟨h, _⟩ | ⟨j, hj, e, h⟩
    · omega
    · have : i = j := by omega
      subst this
      exact h
/-- What the document asks for is what is told. -/
theorem fits_want {s : SP} {q : Q6} (t is : Bool) (A : AP) (hat : q.at_ = (if t then userB else sAction)) (h : FitsOf s q.ai is A) : fitsC s q = if t || !is then 15 else if !(!noneB A.pr q.pt) || !(!noneB A.re q.rt) then 16 else 0 := by
  unfold fitsC
  cases t
  · rw [if_pos (show q.at_ = sAction from hat)]
    rcases h with ⟨rfl, h⟩ | ⟨rfl, h⟩
    · rw [h]
      simp
    · rw [h]
      rfl
  · rw [if_neg (by rw [hat]; decide)]
    rfl
theorem put6 {w : World} {V : Nat} (a b c d e f : Value) (h : w.heap[V]? = some (.cells #[.string ⟨#[]⟩, .string ⟨#[]⟩, .string ⟨#[]⟩, .string ⟨#[]⟩, .string ⟨#[]⟩, .string ⟨#[]⟩] 58 (0, 0))) : ((((((w.setCell ⟨V, 0, none⟩ a).setCell ⟨V, 1, none⟩ b).setCell ⟨V, 2, none⟩ c).setCell ⟨V, 3, none⟩ d).setCell ⟨V, 4, none⟩ e).setCell ⟨V, 5, none⟩ f).heap[V]? = some (.cells #[a, b, c, d, e, f] 58 (0, 0)) := by
  have h1 := heap_setCell_same w V 0 _ _ a h
  have h2 := heap_setCell_same _ V 1 _ _ b h1
  have h3 := heap_setCell_same _ V 2 _ _ c h2
  have h4 := heap_setCell_same _ V 3 _ _ d h3
  have h5 := heap_setCell_same _ V 4 _ _ e h4
  exact heap_setCell_same _ V 5 _ _ f h5
theorem below6 {w0 w : World} {V B : Nat} (a b c d e f : Value) (h : Below B w0 w) (hV : B ≤ V) : Below B w0 ((((((w.setCell ⟨V, 0, none⟩ a).setCell ⟨V, 1, none⟩ b).setCell ⟨V, 2, none⟩ c).setCell ⟨V, 3, none⟩ d).setCell ⟨V, 4, none⟩ e).setCell ⟨V, 5, none⟩ f) :=
  (((((h.setCell (p := ⟨V, 0, none⟩) hV _).setCell (p := ⟨V, 1, none⟩) hV _).setCell (p := ⟨V, 2, none⟩) hV _).setCell (p := ⟨V, 3, none⟩) hV _).setCell (p := ⟨V, 4, none⟩) hV _).setCell (p := ⟨V, 5, none⟩) hV _
def a4s : List ByteArray := [⟨#[114, 101, 97, 100]⟩, ⟨#[119, 114, 105, 116, 101]⟩, ⟨#[111, 119, 110]⟩, ⟨#[120]⟩]
def a4Cs : Array Value := #[.string ⟨#[114, 101, 97, 100]⟩, .string ⟨#[119, 114, 105, 116, 101]⟩, .string ⟨#[111, 119, 110]⟩, .string ⟨#[120]⟩]
theorem a4_cells (m : Nat) (hm : m < 4) : a4Cs[m]? = some (.string (a4s.getD m ⟨#[]⟩)) := by
  match m, hm with
  | 0, _ | 1, _ | 2, _ | 3, _ => rfl
/-- What the operations answer that make a request. -/
def f4Sp (B : Nat) (p a r : Int) (m : Nat) (pt ai rt idn : ByteArray) : Nat → Value → World → Prop
  | 0, v, _ => v = .int .i64 p
  | 1, v, _ => v = .agg #[.string pt, .string idn]
  | 2, v, w => ∃ b, v = .slice (some ⟨b, 0, none⟩) 4 4 ∧ w.heap[b]? = some (.cells a4Cs 9 (0, 0))
  | 3, v, _ => v = .int .i64 a
  | 4, v, _ => v = .int .i64 (m : Nat)
  | 5, v, w => ∃ b, v = .pointer (some ⟨b, m, none⟩) ∧ w.heap[b]? = some (.cells a4Cs 9 (0, 0))
  | 6, v, _ => v = .string ai
  | 7, v, _ => v = .agg #[.string sAction, .string ai]
  | 8, v, _ => v = .int .i64 r
  | 9, v, _ => v = .agg #[.string rt, .string idn]
  | 10, v, _ => v = .agg #[.string pt, .string idn, .string sAction, .string ai, .string rt, .string idn]
  | 11, v, w => ∃ V, v = .pointer (some ⟨V, 0, none⟩) ∧ B ≤ V ∧ w.heap[V]? = some (.cells #[.string ⟨#[]⟩, .string ⟨#[]⟩, .string ⟨#[]⟩, .string ⟨#[]⟩, .string ⟨#[]⟩, .string ⟨#[]⟩] 58 (0, 0))
  | _ + 12, _, _ => True
theorem f4Sp_up {B : Nat} {p a r : Int} {m : Nat} {pt ai rt idn : ByteArray} {w w' : World} (hb : Below w.heap.size w w') : ∀ q u, f4Sp B p a r m pt ai rt idn q u w → f4Sp B p a r m pt ai rt idn q u w'
  | 0, _, h | 1, _, h | 3, _, h | 4, _, h | 6, _, h | 7, _, h | 8, _, h | 9, _, h | 10, _, h => h
  | 2, _, ⟨b, e, h⟩ => ⟨b, e, kept_of_below hb h⟩
  | 5, _, ⟨b, e, h⟩ => ⟨b, e, kept_of_below hb h⟩
  | 11, _, ⟨V, e, h1, h⟩ => ⟨V, e, h1, kept_of_below hb h⟩
  | _ + 12, _, _ => trivial

set_option maxHeartbeats 16000000 in
set_option maxRecDepth 1000000 in
theorem fits_walk (ks : List LK) (as_ : List LA) (ko ao : Option Addr) (kc ac : Nat) (p a r : Int) (t : Bool) (w : World) (hk : IsLKs w ko ks) (ha : IsLAs w ao as_) (hkp : ∀ j (h : j < ks.length), ks[j].ps.length ≤ 9223372036854775807 ∧ ks[j].fs.length ≤ 9223372036854775807) (hap : ∀ j (h : j < as_.length), as_[j].p.length ≤ 9223372036854775807 ∧ as_[j].r.length ≤ 9223372036854775807) :
    Calls Try.prog 7 #[.slice ko ks.length kc, .slice ao as_.length ac, .int .i64 p, .int .i64 a, .int .i64 r, .bool t] w fun e w' => e = .returned (.bool true) ∧ Below w.heap.size w w' := by
  have C0 := known10_any w
  have CG := fun w' (hb : Below w.heap.size w w') => good_any ks as_ ko ao kc ac w' (lks_below hk hb) (las_below ha hb) hkp hap
  have hfew := few_good (tiny_schema ks as_)
  clear hk ha hkp hap
  have CU1 := fun w' => uid5_any p [] none 0 w' (by simp) (by simp) (fun j hj => absurd hj (Nat.not_lt_zero _))
  have CU2 := fun w' => uid5_any r [] none 0 w' (by simp) (by simp) (fun j hj => absurd hj (Nat.not_lt_zero _))
  obtain ⟨m, hm⟩ : ∃ m : Nat, (m : Int) = a % 4 := ⟨(a % 4).toNat, by omega⟩
  have CW := fun w' => within10_any a 4 (by decide) (by decide) w'
  rw [← hm] at CW
  have hm4 : m < 4 := by omega
  have m1 : (m : Int) < 4 := by omega
  have m0 : (0 : Int) ≤ (m : Int) := by omega
  have HAI := hide (a4_cells m hm4)
  clear hm
  simp only [List.length_nil] at CU1 CU2
  generalize a4s.getD m ⟨#[]⟩ = ai at *
  generalize ba (tyI5 p) = pt at *
  generalize ba (tyI5 r) = rt at *
  generalize ba (idt5 []) = idn at *
  generalize goodS (schemaS ks as_) = G at *
  go_enter Try.func7, Try.ntmps7
  go_wp2_with fail
  refine C0.mono ?_
  clear C0
  rintro e w1 ⟨rfl, b1⟩
  have CG := CG w1 b1
  go_wp2_with fail
  refine CG.mono ?_
  clear CG
  rintro e w2 ⟨b2, v, rfl, hS⟩
  obtain ⟨sko, skc, sao, sac, rfl, _, _⟩ := hS.is.ex
  have bs := blw1 w2 (.cells #[.slice sko G.ks.length skc, .slice sao G.ac.length sac] 25)
  have HBs := alloc_heap w2 (.cells #[.slice sko G.ks.length skc, .slice sao G.ac.length sac] 25)
  have hS := hS.below bs
  have b02 := b1.trans (b2.mono b1.size)
  have b04 := b02.trans (bs.mono b02.size)
  have hg1 := hfew.ks
  have hg2 := hfew.ac
  have hsmall := hfew
  have HSA := hide (show ∀ j (h : j < G.ac.length), SmallA G.ac[j] from fun j h => by have := hfew.a G.ac[j] (List.getElem_mem h); exact ⟨by omega, by omega, by omega⟩)
  clear bs b02 hfew
  go_upto_region 4 with fail
  generalize w2.alloc _ = w4 at *
  have hzw : w4.heap.size ≤ w4.heap.size := Nat.le_refl _
  refine wp_specs_put 12 (f4Sp w4.heap.size p a r m pt ai rt idn) (fun w' => Below w4.heap.size w4 w') (by kernel_rfl) (by kernel_rfl) (Below.refl _ w4).drew ?_ ?_
  · intro q o hq' ho a' w' hR hdep hslot K hK
    have hc : q = 0 ∨ q = 1 ∨ q = 2 ∨ q = 3 ∨ q = 4 ∨ q = 5 ∨ q = 6 ∨ q = 7 ∨ q = 8 ∨ q = 9 ∨ q = 10 ∨ q = 11 := by omega
    rcases hc with rfl | rfl | rfl | rfl | rfl | rfl | rfl | rfl | rfl | rfl | rfl | rfl
    · cases ho
      have e0 : a'.tmps.getD 2 undef = .int .i64 p := hslot 2 (by decide)
      unfold Oper.wp
      go_simp
      exact hK _ _ rfl hR (fun _ _ h => h)
    · cases ho
      have e0 : a'.tmps.getD 27 undef = .int .i64 p := hdep 0 (by kernel_rfl)
      unfold Oper.wp
      go_simp
      refine (CU1 w').mono ?_
      rintro e w9 ⟨rfl, b9⟩
      exact hK _ _ rfl (hR.trans (b9.mono hR.size)) (f4Sp_up b9)
    · cases ho
      unfold Oper.wp
      go_simp
      exact hK _ _ ⟨w'.heap.size, rfl, alloc_heap _ _⟩ (hR.alloc hR.size _) (f4Sp_up (blw1 _ _))
    · cases ho
      have e0 : a'.tmps.getD 3 undef = .int .i64 a := hslot 3 (by decide)
      unfold Oper.wp
      go_simp
      exact hK _ _ rfl hR (fun _ _ h => h)
    · cases ho
      have e0 : a'.tmps.getD 30 undef = .int .i64 a := hdep 3 (by kernel_rfl)
      unfold Oper.wp
      go_simp
      refine (CW w').mono ?_
      rintro e w9 ⟨rfl, hw9⟩
      subst hw9
      exact hK _ _ rfl hR (fun _ _ h => h)
    · cases ho
      obtain ⟨b, e0, hb⟩ : f4Sp w4.heap.size p a r m pt ai rt idn 2 (a'.tmps.getD 29 undef) w' := hdep 2 (by kernel_rfl)
      have e1 : a'.tmps.getD 31 undef = .int .i64 (m : Nat) := hdep 4 (by kernel_rfl)
      have Hb := hide hb
      clear hb
      unfold Oper.wp
      go_simp
      exact hK _ _ ⟨b, rfl, unhide Hb⟩ hR (fun _ _ h => h)
    · cases ho
      obtain ⟨b, e0, hb⟩ : f4Sp w4.heap.size p a r m pt ai rt idn 5 (a'.tmps.getD 32 undef) w' := hdep 5 (by kernel_rfl)
      have cb : w'.cell? ⟨b, m, none⟩ = some (.string ai) := by rw [Lib.cell_of_heap hb]; exact unhide HAI
      clear hb
      unfold Oper.wp
      go_simp
      exact hK _ _ rfl hR (fun _ _ h => h)
    · cases ho
      have e0 : a'.tmps.getD 33 undef = .string ai := hdep 6 (by kernel_rfl)
      have e0' : a'.tmps[33]?.getD undef = .string ai := by simpa using e0
      unfold Oper.wp
      go_simp
      exact hK _ _ rfl hR (fun _ _ h => h)
    · cases ho
      have e0 : a'.tmps.getD 4 undef = .int .i64 r := hslot 4 (by decide)
      unfold Oper.wp
      go_simp
      exact hK _ _ rfl hR (fun _ _ h => h)
    · cases ho
      have e0 : a'.tmps.getD 35 undef = .int .i64 r := hdep 8 (by kernel_rfl)
      unfold Oper.wp
      go_simp
      refine (CU2 w').mono ?_
      rintro e w9 ⟨rfl, b9⟩
      exact hK _ _ rfl (hR.trans (b9.mono hR.size)) (f4Sp_up b9)
    · cases ho
      have e0 : a'.tmps.getD 28 undef = .agg #[.string pt, .string idn] := hdep 1 (by kernel_rfl)
      have e0' : a'.tmps[28]?.getD undef = .agg #[.string pt, .string idn] := by simpa using e0
      have e1 : a'.tmps.getD 34 undef = .agg #[.string sAction, .string ai] := hdep 7 (by kernel_rfl)
      have e1' : a'.tmps[34]?.getD undef = .agg #[.string sAction, .string ai] := by simpa using e1
      have e2 : a'.tmps.getD 36 undef = .agg #[.string rt, .string idn] := hdep 9 (by kernel_rfl)
      have e2' : a'.tmps[36]?.getD undef = .agg #[.string rt, .string idn] := by simpa using e2
      unfold Oper.wp
      go_simp
      exact hK _ _ rfl hR (fun _ _ h => h)
    · cases ho
      unfold Oper.wp
      go_simp
      exact hK _ _ ⟨w'.heap.size, rfl, Nat.le_trans hzw hR.size, alloc_heap _ _⟩ (hR.alloc hR.size _) (f4Sp_up (blw1 _ _))
  · intro v w' hR hall
    have f0 := hall 0 (by decide)
    have f1 := hall 1 (by decide)
    obtain ⟨bb2, f2, _⟩ := hall 2 (by decide)
    have f3 := hall 3 (by decide)
    have f4 := hall 4 (by decide)
    obtain ⟨bb5, f5, _⟩ := hall 5 (by decide)
    have f6 := hall 6 (by decide)
    have f7 := hall 7 (by decide)
    have f8 := hall 8 (by decide)
    have f9 := hall 9 (by decide)
    have f10 := hall 10 (by decide)
    obtain ⟨V, f11, hVz, hV⟩ := hall 11 (by decide)
    unfold f4Sp at f0 f1 f3 f4 f6 f7 f8 f9 f10
    have d0 : w'.cell? ⟨V, 0, none⟩ = some (.string ⟨#[]⟩) := by rw [Lib.cell_of_heap hV]; rfl
    have d1 : w'.cell? ⟨V, 1, none⟩ = some (.string ⟨#[]⟩) := by rw [Lib.cell_of_heap hV]; rfl
    have d2 : w'.cell? ⟨V, 2, none⟩ = some (.string ⟨#[]⟩) := by rw [Lib.cell_of_heap hV]; rfl
    have d3 : w'.cell? ⟨V, 3, none⟩ = some (.string ⟨#[]⟩) := by rw [Lib.cell_of_heap hV]; rfl
    have d4 : w'.cell? ⟨V, 4, none⟩ = some (.string ⟨#[]⟩) := by rw [Lib.cell_of_heap hV]; rfl
    have d5 : w'.cell? ⟨V, 5, none⟩ = some (.string ⟨#[]⟩) := by rw [Lib.cell_of_heap hV]; rfl
    have df := fun o => Lib.frozen_of_heap hV o
    have HQ := hide (put6 (w := w') (V := V) (.string pt) (.string idn) (.string sAction) (.string ai) (.string rt) (.string idn) hV)
    have HB6 := hide (below6 (w := w') (V := V) (.string pt) (.string idn) (.string sAction) (.string ai) (.string rt) (.string idn) hR hVz)
    clear hV hall
    simp only [putAll, dstOf, List.getElem?_cons_zero, List.getElem?_cons_succ, Option.bind_some, List.drop_succ_cons, List.drop_zero, f0, f1, f2, f3, f4, f5, f6, f7, f8, f9, f10, f11]
    clear f0 f1 f2 f3 f4 f5 f6 f7 f8 f9 f10 f11
    simp only [Act.put, List.setIfInBounds_toArray, List.set_cons_succ, List.set_cons_zero]
    go_upto_if 38 with fail
    clear d0 d1 d2 d3 d4 d5 df
    have hq := unhide HQ
    have bq := unhide HB6
    clear HQ HB6
    generalize (((((w'.setCell _ _).setCell _ _).setCell _ _).setCell _ _).setCell _ _).setCell _ _ = w6 at *
    go_cut [] from 15 (fun wc => wc.heap[V]? = some (.cells #[.string pt, .string idn, .string (if t then userB else sAction), .string ai, .string rt, .string idn] 58 (0, 0)) ∧ Below w4.heap.size w4 wc)
    case first =>
      cases t
      · go_wp2_with fail
        go_meet
        case rel => exact ⟨hq, bq⟩
      · have q2 : w6.cell? ⟨V, 2, none⟩ = some (.string sAction) := by rw [Lib.cell_of_heap hq]; rfl
        have fq : w6.frozen? ⟨V, 2, none⟩ = false := Lib.frozen_of_heap hq 2
        have hq2 := heap_setCell_same w6 V 2 _ _ (.string userB) hq
        have bq2 := bq.setCell (p := ⟨V, 2, none⟩) hVz (.string userB)
        have HH := hide (And.intro hq2 bq2)
        clear hq2 bq2
        unfold userB at *
        go_wp2_with fail
        go_meet
        case rel => exact unhide HH
    case rest =>
      rename World => w7
      obtain ⟨hq7, b7⟩ := hcut
      obtain ⟨at_, hat⟩ : ∃ at_, at_ = (if t then userB else sAction) := ⟨_, rfl⟩
      rw [← hat] at hq7
      have Hat := hide hat
      clear hat
      have b47 := b7.size
      have hs7 := hS.is.below b7
      have HB7 := kept_of_below b7 HBs
      have ms0 : w7.cell? ⟨w2.heap.size, 0, none⟩ = some (.slice sko G.ks.length skc) := by rw [Lib.cell_of_heap HB7]; rfl
      have ms1 : w7.cell? ⟨w2.heap.size, 1, none⟩ = some (.slice sao G.ac.length sac) := by rw [Lib.cell_of_heap HB7]; rfl
      have mq3 : w7.cell? ⟨V, 3, none⟩ = some (.string ai) := by rw [Lib.cell_of_heap hq7]; rfl
      have CA := (rAction_any G _ ai w7 (by omega) hs7).mono (fun e w9 h => And.intro (found_act h.1 h.2 hsmall) h.2)
      have zV : V < w7.heap.size := (Array.getElem?_eq_some_iff.1 hq7).1
      go_wp2_with fail
      refine CA.mono ?_
      clear CA ms0 ms1 mq3
      rintro e w8 ⟨⟨x, is, A, rfl, hA, hAs, hlp, hlr⟩, b8⟩
      have bx := blw1 w8 (.cells #[.string x.nm, .slice x.ao x.al x.ac, .slice x.bo x.bl x.bc] 44)
      have HXb := alloc_heap w8 (.cells #[.string x.nm, .slice x.ao x.al x.ac, .slice x.bo x.bl x.bc] 44)
      have hA9 := hA.below bx
      have hq9 := kept_of_below bx (kept_of_below b8 hq7)
      have HB9 := kept_of_below bx (kept_of_below b8 HB7)
      have bw9 := b7.trans ((b8.trans (bx.mono b8.size)).mono b7.size)
      have HAs := hide hAs
      clear hA hAs
      obtain ⟨xn, xao, xal, xac, xbo, xbl, xbc⟩ := x
      obtain ⟨k1, k2, k3, k4, k5⟩ := hA9
      simp only at k1 k2 k3 k4 k5 HXb bx bw9 hq9 HB9
      subst k2 k4
      have HPr := hide k3
      have HRe := hide k5
      clear k1 k3 k5 bx
      go_upto_block 0 with fail
      generalize w8.alloc _ = w9 at *
      go_cut [17, 19] from 49 (fun s17 _ wc => s17 = .bool (!noneB A.pr pt) ∧ Below w9.heap.size w9 wc)
      case first =>
        go_wp2_with fail
        go_loopw [17, 19] (fun bv iv wr => ∃ i : Nat, bv = .bool (!noneB (A.pr.take i) pt) ∧ iv = .int .i64 i ∧ i ≤ A.pr.length ∧ Below w9.heap.size w9 wr) (fun _ iv _ => A.pr.length - (intOf iv).toNat)
        case atStart => exact ⟨0, rfl, by go_num, Nat.zero_le _, Below.refl _ _⟩
        case round =>
          obtain ⟨i, rfl, rfl, hil, hbr⟩ := hrel
          have xr : wr.cell? ⟨w8.heap.size, 1, none⟩ = some (.slice xao A.pr.length xac) := by rw [Lib.cell_of_heap (kept_of_below hbr HXb)]; rfl
          have qt : wr.cell? ⟨V, 0, none⟩ = some (.string pt) := by rw [Lib.cell_of_heap (kept_of_below hbr hq9)]; rfl
          by_cases hlt : i < A.pr.length
          · have i0 : (0 : Int) ≤ (i : Int) := by omega
            have i1 : (i : Int) < (A.pr.length : Int) := by omega
            obtain ⟨g, off, rfl, hg, cx⟩ := (unhide HPr).get hbr hlt
            have HN := hide (noneB_next A.pr pt i hlt)
            obtain ⟨y, hy⟩ : ∃ y, y = A.pr[i] := ⟨_, rfl⟩
            rw [← hy] at cx HN
            clear hy
            have g1 := cell_regrown xr
            have g2 := cell_regrown qt
            have g3 := cell_regrown cx
            cases hb : noneB (A.pr.take i) pt
            · have hb' : (!false) = true := rfl
              rw [hb] at HN
              rw [hb']
              clear hb hb' qt cx
              go_upto_region 12 with fail
              refine wp_region_quiet_below (by kernel_rfl) (by kernel_rfl) ?_
              repeat (first | go_big_quiet_step (fail) | quiet_step (fail))
              refine wpQuiet_nil ?_
              intro _ hw'
              obtain ⟨⟨dq2, osq2⟩, hw''⟩ := hw'
              subst hw''
              have b11 := below_regrown wr dq2 osq2
              generalize grow (redrawn wr dq2) osq2 = w6' at *
              clear g1 g2 g3
              go_wp2
              go_roundw
              case rel => exact ⟨i + 1, by rw [unhide HN]; rfl, by go_num, by omega, hbr.trans (b11.mono hbr.size)⟩
              case measure =>
                simp only [intOf]
                omega
            · have hb' : (!true) = false := rfl
              rw [hb] at HN
              rw [hb']
              clear hb hb' qt cx
              obtain ⟨z, hz⟩ : ∃ z, (y.toList == pt.toList) = z := ⟨_, rfl⟩
              have HN := hide (show noneB (A.pr.take (i + 1)) pt = !z by rw [unhide HN, beq_bytes, hz]; rfl)
              cases z
              · go_upto_region 12 with fail
                refine wp_region_quiet_below (by kernel_rfl) (by kernel_rfl) ?_
                repeat (first | go_big_quiet_step (fail) | quiet_step (fail))
                refine wpQuiet_nil ?_
                intro _ hw'
                obtain ⟨⟨dq2, osq2⟩, hw''⟩ := hw'
                subst hw''
                have b11 := below_regrown wr dq2 osq2
                generalize grow (redrawn wr dq2) osq2 = w6' at *
                clear g1 g2 g3
                go_wp2
                go_roundw
                case rel => exact ⟨i + 1, by rw [unhide HN]; rfl, by go_num, by omega, hbr.trans (b11.mono hbr.size)⟩
                case measure =>
                  simp only [intOf]
                  omega
              · go_upto_region 12 with fail
                refine wp_region_quiet_below (by kernel_rfl) (by kernel_rfl) ?_
                repeat (first | go_big_quiet_step (fail) | quiet_step (fail))
                refine wpQuiet_nil ?_
                intro _ hw'
                obtain ⟨⟨dq2, osq2⟩, hw''⟩ := hw'
                subst hw''
                have b11 := below_regrown wr dq2 osq2
                generalize grow (redrawn wr dq2) osq2 = w6' at *
                clear g1 g2 g3
                go_wp2
                go_roundw
                case rel => exact ⟨i + 1, by rw [unhide HN]; rfl, by go_num, by omega, hbr.trans (b11.mono hbr.size)⟩
                case measure =>
                  simp only [intOf]
                  omega
          · have i1 : ¬ (i : Int) < (A.pr.length : Int) := by omega
            have e : A.pr.take i = A.pr := List.take_of_length_le (by omega)
            rw [e]
            go_wp2_with fail
            go_meet
            case rel => exact ⟨rfl, hbr⟩
      case rest =>
        rename World => wA
        obtain ⟨e17, bA⟩ := hcut
        subst e17
        have hqA := kept_of_below bA hq9
        have HBA := kept_of_below bA HB9
        have HXA := kept_of_below bA HXb
        have bwA := bw9.trans (bA.mono bw9.size)
        have HReA := hide ((unhide HRe).below bA)
        go_upto_block 2 with fail
        go_cut [18, 20] from 68 (fun s18 _ wc => s18 = .bool (!noneB A.re rt) ∧ Below wA.heap.size wA wc)
        case first =>
          go_wp2_with fail
          go_loopw [18, 20] (fun bv iv wr => ∃ i : Nat, bv = .bool (!noneB (A.re.take i) rt) ∧ iv = .int .i64 i ∧ i ≤ A.re.length ∧ Below wA.heap.size wA wr) (fun _ iv _ => A.re.length - (intOf iv).toNat)
          case atStart => exact ⟨0, rfl, by go_num, Nat.zero_le _, Below.refl _ _⟩
          case round =>
            obtain ⟨i, rfl, rfl, hil, hbr⟩ := hrel
            have xr : wr.cell? ⟨w8.heap.size, 2, none⟩ = some (.slice xbo A.re.length xbc) := by rw [Lib.cell_of_heap (kept_of_below hbr HXA)]; rfl
            have qt : wr.cell? ⟨V, 4, none⟩ = some (.string rt) := by rw [Lib.cell_of_heap (kept_of_below hbr hqA)]; rfl
            by_cases hlt : i < A.re.length
            · have i0 : (0 : Int) ≤ (i : Int) := by omega
              have i1 : (i : Int) < (A.re.length : Int) := by omega
              obtain ⟨g, off, rfl, hg, cx⟩ := (unhide HReA).get hbr hlt
              have HN := hide (noneB_next A.re rt i hlt)
              obtain ⟨y, hy⟩ : ∃ y, y = A.re[i] := ⟨_, rfl⟩
              rw [← hy] at cx HN
              clear hy
              have g1 := cell_regrown xr
              have g2 := cell_regrown qt
              have g3 := cell_regrown cx
              cases hb : noneB (A.re.take i) rt
              · have hb' : (!false) = true := rfl
                rw [hb] at HN
                rw [hb']
                clear hb hb' qt cx
                go_upto_region 16 with fail
                refine wp_region_quiet_below (by kernel_rfl) (by kernel_rfl) ?_
                repeat (first | go_big_quiet_step (fail) | quiet_step (fail))
                refine wpQuiet_nil ?_
                intro _ hw'
                obtain ⟨⟨dq2, osq2⟩, hw''⟩ := hw'
                subst hw''
                have b11 := below_regrown wr dq2 osq2
                generalize grow (redrawn wr dq2) osq2 = w6' at *
                clear g1 g2 g3
                go_wp2
                go_roundw
                case rel => exact ⟨i + 1, by rw [unhide HN]; rfl, by go_num, by omega, hbr.trans (b11.mono hbr.size)⟩
                case measure =>
                  simp only [intOf]
                  omega
              · have hb' : (!true) = false := rfl
                rw [hb] at HN
                rw [hb']
                clear hb hb' qt cx
                obtain ⟨z, hz⟩ : ∃ z, (y.toList == rt.toList) = z := ⟨_, rfl⟩
                have HN := hide (show noneB (A.re.take (i + 1)) rt = !z by rw [unhide HN, beq_bytes, hz]; rfl)
                cases z
                · go_upto_region 16 with fail
                  refine wp_region_quiet_below (by kernel_rfl) (by kernel_rfl) ?_
                  repeat (first | go_big_quiet_step (fail) | quiet_step (fail))
                  refine wpQuiet_nil ?_
                  intro _ hw'
                  obtain ⟨⟨dq2, osq2⟩, hw''⟩ := hw'
                  subst hw''
                  have b11 := below_regrown wr dq2 osq2
                  generalize grow (redrawn wr dq2) osq2 = w6' at *
                  clear g1 g2 g3
                  go_wp2
                  go_roundw
                  case rel => exact ⟨i + 1, by rw [unhide HN]; rfl, by go_num, by omega, hbr.trans (b11.mono hbr.size)⟩
                  case measure =>
                    simp only [intOf]
                    omega
                · go_upto_region 16 with fail
                  refine wp_region_quiet_below (by kernel_rfl) (by kernel_rfl) ?_
                  repeat (first | go_big_quiet_step (fail) | quiet_step (fail))
                  refine wpQuiet_nil ?_
                  intro _ hw'
                  obtain ⟨⟨dq2, osq2⟩, hw''⟩ := hw'
                  subst hw''
                  have b11 := below_regrown wr dq2 osq2
                  generalize grow (redrawn wr dq2) osq2 = w6' at *
                  clear g1 g2 g3
                  go_wp2
                  go_roundw
                  case rel => exact ⟨i + 1, by rw [unhide HN]; rfl, by go_num, by omega, hbr.trans (b11.mono hbr.size)⟩
                  case measure =>
                    simp only [intOf]
                    omega
            · have i1 : ¬ (i : Int) < (A.re.length : Int) := by omega
              have e : A.re.take i = A.re := List.take_of_length_le (by omega)
              rw [e]
              go_wp2_with fail
              go_meet
              case rel => exact ⟨rfl, hbr⟩
        case rest =>
          rename World => wE
          obtain ⟨e18, bE⟩ := hcut
          subst e18
          have hqE := kept_of_below bE hqA
          have HBE := kept_of_below bE HBA
          have bwE := bwA.trans (bE.mono bwA.size)
          have hsE := hS.is.below bwE
          have CF := mfits_any G _ ⟨pt, idn, at_, ai, rt, idn⟩ wE (by omega) (unhide HSA) hsE
          unfold Q6.val at CF
          simp only at CF
          have HF := hide (fits_want (s := G) (q := ⟨pt, idn, at_, ai, rt, idn⟩) t is A (unhide Hat) (unhide HAs))
          simp only at HF
          have ms0 : wE.cell? ⟨w2.heap.size, 0, none⟩ = some (.slice sko G.ks.length skc) := by rw [Lib.cell_of_heap HBE]; rfl
          have ms1 : wE.cell? ⟨w2.heap.size, 1, none⟩ = some (.slice sao G.ac.length sac) := by rw [Lib.cell_of_heap HBE]; rfl
          have q0 : wE.cell? ⟨V, 0, none⟩ = some (.string pt) := by rw [Lib.cell_of_heap hqE]; rfl
          have q1 : wE.cell? ⟨V, 1, none⟩ = some (.string idn) := by rw [Lib.cell_of_heap hqE]; rfl
          have q2 : wE.cell? ⟨V, 2, none⟩ = some (.string at_) := by rw [Lib.cell_of_heap hqE]; rfl
          have q3 : wE.cell? ⟨V, 3, none⟩ = some (.string ai) := by rw [Lib.cell_of_heap hqE]; rfl
          have q4 : wE.cell? ⟨V, 4, none⟩ = some (.string rt) := by rw [Lib.cell_of_heap hqE]; rfl
          have q5 : wE.cell? ⟨V, 5, none⟩ = some (.string idn) := by rw [Lib.cell_of_heap hqE]; rfl
          generalize fitsC G ⟨pt, idn, at_, ai, rt, idn⟩ = FC at *
          generalize noneB A.pr pt = y1 at *
          generalize noneB A.re rt = y2 at *
          have b0E := b04.trans (bwE.mono b04.size)
          cases t <;> cases is <;> cases y1 <;> cases y2 <;> (
            have hfc := unhide HF
            simp only [Bool.not_true, Bool.not_false, Bool.or_self, Bool.or_true, Bool.or_false, if_true, if_false, Bool.false_eq_true] at hfc
            subst hfc
            clear HF
            go_wp2_with fail
            refine CF.mono ?_
            rintro e wF ⟨rfl, bF⟩
            have b0F := b0E.trans (bF.mono b0E.size)
            clear q0 q1 q2 q3 q4 q5 ms0 ms1 CF
            go_wp2
            go_ret
            exact ⟨rfl, b0F⟩)
end Go.Proofs.Ytbcddjaecdoliaa
