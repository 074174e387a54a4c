/-
  chancellaw13: an evaluation among good entities.
-/
import Derived.Test.YtonfanfggfjbdaaGreatEvS
import Derived.Test.YtonfanfggfjbdaaGreatGdG
namespace Go.Proofs.YtonfanfggfjbdaaGreat
open Go.RowKit Go.Sort

theorem wf_inR {n : Int} (h : (Lit.int .i64 n).wf = true) : InR n := by
  have h : (decide (IntKind.i64.min ≤ n) && decide (n ≤ IntKind.i64.max)) = true := h
  simp only [Bool.and_eq_true, decide_eq_true_eq] at h
  have e1 : IntKind.i64.min = -9223372036854775808 := by decide
  have e2 : IntKind.i64.max = 9223372036854775807 := by decide
  unfold InR
  omega
theorem okG_plainV (k : Nat) (n : Int) (xs : List Int) (h : InR n) : okEG (.pl (plainV k n xs)) := by
  unfold plainV
  split
  · trivial
  · split
    · exact h
    · split
      · have := txt_len (xs.take 30)
        show (txt (xs.take 30)).length < 4294967281
        omega
      · trivial
theorem okG_cut3 {g : GV} (h : okEG g) : okEG (cut3 g) := by
  cases g with
  | pl p => exact h
  | set l =>
    have h : l.length ≤ 1048576 := h
    show (l.take 3).length ≤ 1048576
    rw [List.length_take]
    omega
theorem okG_goodG (r : RawE) (es : List RawE) (h : InR r.n) : okEG (goodG r es) := by
  have hl := goodG_len r es
  unfold goodG at hl ⊢
  split
  · rename_i h5
    rw [if_pos h5] at hl
    have hl : (setOf lessP (goodL r.k es)).length ≤ 8 := hl
    show (setOf lessP (goodL r.k es)).length ≤ 1048576
    omega
  · exact okG_plainV _ _ _ h
theorem ok_goods {W : World} (L : List EntR) (h : ∀ r ∈ L, r.Ok W) : ∀ p ∈ goodsL L, p.ats.length ≤ 1048576 ∧ ∀ a ∈ p.ats, okEG a.2 := fun p hp => by
  refine ⟨(goodsL_fits L p hp).2.1, fun a ha => ?_⟩
  have hp' : p ∈ (L.take 12).map goodE := by
    unfold goodsL aOf at hp
    rcases (mem_fold _ [] p).1 hp with ⟨l, r, e, _⟩ | ⟨h, _⟩
    · rw [e]; simp
    · cases h
  obtain ⟨x, hx, rfl⟩ := List.mem_map.1 hp'
  have hxL := List.mem_of_mem_take hx
  have ha2 : a ∈ (entP x).ats := riseBy_mem _ _ a ha
  have ha3 : a ∈ ((x.ns.zip x.vs).take 3).map atE := ha2
  obtain ⟨y, hy, rfl⟩ := List.mem_map.1 ha3
  have hy2 := (List.of_mem_zip (List.mem_of_mem_take hy)).2
  obtain ⟨j, hj, e⟩ := List.mem_iff_getElem.1 hy2
  have hok := ((h x hxL).vs j hj).1
  rw [e] at hok
  exact okG_cut3 (okG_goodG _ _ (wf_inR hok.inr))
def parsE (ps : List EntP) : List U2 := ps.flatMap EntP.ps
theorem flat_lenE : ∀ (ps : List EntP), (∀ p ∈ ps, p.ps.length ≤ 3) → (parsE ps).length ≤ ps.length * 3
  | [], _ => Nat.le_refl _
  | p :: ps, h => by
    have h1 := h p List.mem_cons_self
    have h2 := flat_lenE ps fun q hq => h q (List.mem_cons_of_mem _ hq)
    unfold parsE at h2 ⊢
    rw [List.flatMap_cons, List.length_append, List.length_cons]
    omega
theorem goods_psE (L : List EntR) : ∀ p ∈ goodsL L, p.ps.length ≤ 3 := fun p hp => by
  unfold goodsL aOf at hp
  rcases (mem_fold _ [] p).1 hp with ⟨l, r, e, _⟩ | ⟨h, _⟩
  · have : p ∈ (L.take 12).map goodE := by rw [e]; simp
    obtain ⟨x, _, rfl⟩ := List.mem_map.1 this
    have h1 := lenG_setOf_le (lt := lessU) (entP x).ps
    have h2 : (entP x).ps.length ≤ 3 := by
      show ((x.ps.take 3).map parE).length ≤ 3
      rw [List.length_map, List.length_take]
      omega
    show (setOf lessU (entP x).ps).length ≤ 3
    omega
  · cases h
theorem way_dec (S : U2 → List U2) : ∃ f : U2 → U2 → Bool, ∀ u x, f u x = true ↔ Way S u x := by
  classical
  exact ⟨fun u x => decide (Way S u x), fun u x => by simp⟩
/-- Good entities in memory serve as eval's, for whatever request. -/
theorem ew_goods {w : World} {L : List EntR} {W : World} {lo : Option Addr} {gs : List E4} (hok : ∀ r ∈ L, r.Ok W) (hr : RowG w lo 4 (gs.map E4.cells)) (ha : AllEnt w (fun _ => True) gs (goodsL L)) (hf : FitL w) {f : U2 → U2 → Bool} (hw : ∀ u x, f u x = true ↔ Way (upS (goodsL L)) u x) (p a r : U2) : EW w lo gs ⟨p, a, r, goodsL L, f⟩ where
  row := hr
  all := ha
  len := by have h1 := ha.1; have h2 := goodsL_len L; omega
  inA := fun cap u x w' hb => by
    have hnd := rising_nodup (goodsL_rising L)
    have h3 := goods_psE L
    have hlen := goodsL_len L
    have hfl := flat_lenE _ h3
    have hS := steps_up (ha.below hb) hnd (fun p hp => by have := h3 p hp; omega)
    refine (in_any (upS (goodsL L)) gs lo cap u x (parsE (goodsL L)) w' (by have h1 := ha.1; omega) (hr.below hb) hS (fun y v hv => by
      obtain ⟨p, hp, _, hm⟩ := (mem_upS hnd y v).1 hv
      exact List.mem_flatMap.2 ⟨p, hp, hm⟩) (by omega)).mono ?_
    rintro e w'' ⟨hb2, z, rfl, hz⟩
    refine ⟨?_, hb2⟩
    have : z = f u x := by
      have := hw u x
      cases z <;> cases hfx : f u x <;> simp_all
    rw [this]
  ok := ok_goods L hok
  fit := hf
end Go.Proofs.YtonfanfggfjbdaaGreat
