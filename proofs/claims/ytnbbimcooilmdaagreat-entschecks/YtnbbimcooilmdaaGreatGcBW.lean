/-
  What Good makes may be: what both checks tell of it (no walk in it).
  chancellaw8.few: what it returns.
  chancellaw8.within; what both checks tell of a row.
  chancellaw8.EntsChecks: the walk.
-/
import Derived.Test.YtnbbimcooilmdaaGreatGcOP
import Derived.Test.YtnbbimcooilmdaaGreatGdG
import Derived.Test.YtnbbimcooilmdaaGreatElOA
import Derived.Test.YtnbbimcooilmdaaGreatVhHG
import Derived.Test.YtnbbimcooilmdaaGreatEcGB
namespace Go.Proofs.YtnbbimcooilmdaaGreat
open Go.RowKit Go.Sort

/-- What is told of a value: of one without a list by its fields, of one with a list that it is good. -/
def zfB (r : R7) : Int := if r.ll = 0 then chkAny r [] else 0
theorem told_flat (w : World) (r : R7) (h0 : r.ll = 0) (hs : smallR' r) : Told w r (zfB r) ∧ ToldR w r (zfB r) := by
  have e : zfB r = chkAny r [] := if_pos h0
  rw [e]
  exact ⟨fun w' _ => vcheck_any r [] w' h0 (Nat.zero_le _) (fun _ hj => absurd hj (Nat.not_lt_zero _)) hs (fun _ h => by cases h), fun w' _ => r3check_any r [] w' h0 (Nat.zero_le _) (fun _ hj => absurd hj (Nat.not_lt_zero _)) hs (fun _ h => by cases h)⟩
/-- A value such as Good makes. -/
def OkGV : GV → Prop
  | .pl p => chkP p = 0 ∧ smallR' (ofP p)
  | .set l => l.length ≤ 8 ∧ (∀ p ∈ l, ∀ q ∈ l, p.kind = q.kind) ∧ (∀ p ∈ l, chkP p = 0 ∧ smallR' (ofP p)) ∧ Rising lessP l
theorem ofP_ll (p : PV) : (ofP p).ll = 0 := by cases p <;> rfl
theorem ofP_k5 (p : PV) : (ofP p).k ≠ 5 := by cases p <;> simp [ofP]
theorem small_set (ao : Option Addr) (n c : Nat) : smallR' (setR ao n c) := by
  have h0 : (ba []).size ≤ 1048576 := by decide
  exact ⟨h0, h0, h0⟩
theorem told_good {w : World} {g : GV} {R : R7} (hg : OkGV g) (h : IsG w g R) : Told w R 0 ∧ ToldR w R 0 ∧ zfB R = 0 := by
  cases g with
  | pl p =>
    obtain ⟨h1, h2⟩ := hg
    have e : R = ofP p := h
    subst e
    have hz : zfB (ofP p) = 0 := by
      unfold zfB chkAny
      rw [if_pos (ofP_ll p), if_neg (ofP_k5 p), chkFlat_ofP, h1]
    have := told_flat w (ofP p) (ofP_ll p) h2
    rw [hz] at this
    exact ⟨this.1, this.2, hz⟩
  | set l =>
    obtain ⟨h8, hk, hc, hr⟩ := hg
    obtain ⟨ao, c, rfl, hrow, ho⟩ := h
    have hz : chkAny (setR ao l.length c) (l.map ofP) = 0 := by
      unfold chkAny
      rw [if_pos (show (setR ao l.length c).k = 5 from rfl), chkSet, more_set, chkEls_ok l h8 hk (fun p hp => (hc p hp).1) hr]
      rfl
    have hsm : ∀ e ∈ l.map ofP, smallR' e := fun e he => by
      obtain ⟨p, hp, rfl⟩ := List.mem_map.1 he
      exact (hc p hp).2
    refine ⟨fun w' hb => ?_, fun w' hb => ?_, ?_⟩
    · have := vcheck_any (setR ao l.length c) (l.map ofP) w' (by rw [List.length_map]; rfl) (by rw [List.length_map]; omega) (hrow.below hb) (small_set _ _ _) hsm
      rwa [hz] at this
    · have := r3check_any (setR ao l.length c) (l.map ofP) w' (by rw [List.length_map]; rfl) (by rw [List.length_map]; omega) (hrow.below hb) (small_set _ _ _) hsm
      rwa [hz] at this
    · unfold zfB
      by_cases h0 : (setR ao l.length c).ll = 0
      · rw [if_pos h0]
        have : l = [] := List.eq_nil_of_length_eq_zero h0
        subst this
        exact hz
      · rw [if_neg h0]

theorem okGV_good (r : RawE) (es : List RawE) : OkGV (cut3 (goodG r es)) := by
  unfold goodG
  split
  · have hmem : ∀ p ∈ setOf lessP (goodL r.k es), ∃ n xs, p = plainV (goodK r.k) n xs := fun p hp => by
      obtain ⟨a, _, rfl⟩ := List.mem_map.1 ((mem_setOf sto_lessP _ p).1 hp)
      exact ⟨_, _, rfl⟩
    have hm3 : ∀ p ∈ (setOf lessP (goodL r.k es)).take 3, p ∈ setOf lessP (goodL r.k es) := fun p hp => List.mem_of_mem_take hp
    refine ⟨?_, fun p hp q hq => ?_, fun p hp => ?_, ?_⟩
    · rw [List.length_take]
      omega
    · exact goodL_kind r.k es p ((mem_setOf sto_lessP _ p).1 (hm3 p hp)) q ((mem_setOf sto_lessP _ q).1 (hm3 q hq))
    · obtain ⟨n, xs, rfl⟩ := hmem p (hm3 p hp)
      exact ⟨chkP_plainV _ _ _, small'_plainV _ _ _⟩
    · exact List.Pairwise.sublist (List.take_sublist _ _) (rising_setOf sto_lessP _)
  · exact ⟨chkP_plainV _ _ _, small'_plainV _ _ _⟩

/-! ## An entity such as Good makes. -/

structure OkEnt (p : EntP) : Prop where
  u : chk2 p.u = 0 ∧ p.u.t.size ≤ 1000 ∧ p.u.i.size ≤ 1000
  pl : p.ps.length ≤ 4
  ps : ∀ u ∈ p.ps, chk2 u = 0 ∧ u.t.size ≤ 1000 ∧ u.i.size ≤ 1000
  rise : p.ps.Pairwise fun a b => lessU a b = true
  al : p.ats.length ≤ 5
  ats : ∀ a ∈ p.ats, nameB a.1.data.toList = true ∧ a.1.size ≤ 1000 ∧ OkGV a.2
  riseA : p.ats.Pairwise fun a b => Op.bytesLess a.1.toList b.1.toList = true
theorem ok_uid (t n : Int) : chk2 (uidEn t n) = 0 ∧ (uidEn t n).t.size ≤ 1000 ∧ (uidEn t n).i.size ≤ 1000 := by
  have a0 := Int.emod_nonneg t (show (4 : Int) ≠ 0 by decide)
  have a1 := Int.emod_lt_of_pos t (show (0 : Int) < 4 by decide)
  have b0 := Int.emod_nonneg n (show (5 : Int) ≠ 0 by decide)
  have b1 := Int.emod_lt_of_pos n (show (0 : Int) < 5 by decide)
  have H : ∀ a, a < 4 → ∀ b, b < 5 → chk2 (⟨kn4.getD a ⟨#[]⟩, letS b⟩ : U2) = 0 ∧ (kn4.getD a ⟨#[]⟩).size ≤ 1000 ∧ (letS b).size ≤ 1000 := by decide
  exact H (t % 4).toNat (by omega) (n % 5).toNat (by omega)
theorem ok_name (n : Int) : nameB (nmE n).data.toList = true ∧ (nmE n).size ≤ 1000 := by
  have a0 := Int.emod_nonneg n (show (7 : Int) ≠ 0 by decide)
  have a1 := Int.emod_lt_of_pos n (show (0 : Int) < 7 by decide)
  have H : ∀ a, a < 7 → nameB (nm7e.getD a ⟨#[]⟩).data.toList = true ∧ (nm7e.getD a ⟨#[]⟩).size ≤ 1000 := by decide
  exact H (n % 7).toNat (by omega)
theorem riseBy_pair {α : Type} (f : α → ByteArray) (l : List α) : (riseBy f l).Pairwise fun a b => Op.bytesLess (f a).toList (f b).toList = true := by
  have tr : ∀ a b c : ByteArray, Op.bytesLess a.toList b.toList = true → Op.bytesLess b.toList c.toList = true → Op.bytesLess a.toList c.toList = true := fun a b c h1 h2 => by
    rw [bytesLess_eq, decide_eq_true_eq] at h1 h2 ⊢
    exact List.lt_trans h1 h2
  have step : ∀ (acc : List α) (a : α), (acc.Pairwise fun a b => Op.bytesLess (f a).toList (f b).toList = true) → ((riseStep f acc a).Pairwise fun a b => Op.bytesLess (f a).toList (f b).toList = true) := fun acc a h => by
    unfold riseStep
    cases hl : acc.getLast? with
    | none =>
      rw [List.getLast?_eq_none_iff] at hl
      subst hl
      exact List.pairwise_singleton _ _
    | some z =>
      simp only
      split
      · rename_i hlt
        rw [List.pairwise_append]
        refine ⟨h, List.pairwise_singleton _ _, fun x hx y hy => ?_⟩
        rw [List.mem_singleton.1 hy]
        rw [List.getLast?_eq_getElem?] at hl
        obtain ⟨hl1, hl2⟩ := List.getElem?_eq_some_iff.1 hl
        obtain ⟨k, hk, rfl⟩ := List.getElem_of_mem hx
        by_cases hke : k = acc.length - 1
        · subst hke
          rw [hl2]
          exact hlt
        · have := List.pairwise_iff_getElem.1 h k (acc.length - 1) hk hl1 (by omega)
          rw [hl2] at this
          exact tr _ _ _ this hlt
      · exact h
  have : ∀ (l acc : List α), (acc.Pairwise fun a b => Op.bytesLess (f a).toList (f b).toList = true) → ((l.foldl (riseStep f) acc).Pairwise fun a b => Op.bytesLess (f a).toList (f b).toList = true) := fun l => by
    induction l with
    | nil => intro acc h; exact h
    | cons a l ih => intro acc h; exact ih _ (step acc a h)
  exact this l [] List.Pairwise.nil
theorem okEnt_good (r : EntR) : OkEnt (goodE r) := by
  have hps : ((r.ps.take 3).map parE).length ≤ 3 := by
    rw [List.length_map, List.length_take]
    omega
  have has : (((r.ns.zip r.vs).take 3).map atE).length ≤ 3 := by
    rw [List.length_map, List.length_take]
    omega
  refine ⟨ok_uid r.t r.n, ?_, fun u hu => ?_, rising_setOf sto_lessU _, ?_, fun a ha => ?_, riseBy_pair _ _⟩
  · have := lenG_setOf_le (lt := lessU) ((r.ps.take 3).map parE)
    show (setOf lessU ((r.ps.take 3).map parE)).length ≤ 4
    omega
  · obtain ⟨x, _, rfl⟩ := List.mem_map.1 ((mem_setOf sto_lessU _ u).1 (show u ∈ setOf lessU ((r.ps.take 3).map parE) from hu))
    exact ok_uid _ _
  · have := riseBy_len Prod.fst (((r.ns.zip r.vs).take 3).map atE)
    show (riseBy Prod.fst (((r.ns.zip r.vs).take 3).map atE)).length ≤ 5
    omega
  · obtain ⟨x, _, rfl⟩ := List.mem_map.1 (riseBy_mem Prod.fst (((r.ns.zip r.vs).take 3).map atE) a ha)
    exact ⟨(ok_name _).1, (ok_name _).2, okGV_good _ _⟩
theorem okEnt_goods (L : List EntR) : ∀ p ∈ goodsL L, OkEnt p := fun p hp => by
  unfold goodsL aOf at hp
  rcases (mem_fold _ [] p).1 hp with ⟨l, r, e, _⟩ | ⟨h, _⟩
  · have : p ∈ (L.take 12).map goodE := by rw [e]; simp
    obtain ⟨x, _, rfl⟩ := List.mem_map.1 this
    exact okEnt_good x
  · cases h

/-- .. in memory: both tell that it may be. -/
theorem entB_good {w : World} {e : E4} {p : EntP} (hp : OkEnt p) (h : IsEnt w (fun _ => True) e p) : ∃ ats, EntB w e p.ps ats zfB ∧ chkE (e4u e) p.ps ats zfB = 0 ∧ ∀ a ∈ ats, Told w a.v (zfB a.v) ∧ ToldR w a.v (zfB a.v) := by
  obtain ⟨rs, h1, h2, _, h4⟩ := h.ats
  have hu : e4u e = p.u := h.u
  have hu' : e.t.size ≤ 1000 ∧ e.i.size ≤ 1000 := by
    have := hp.u.2
    rw [← hu] at this
    exact this
  have hA : ∀ a ∈ rs, ∃ b ∈ p.ats, a.nm = b.1 ∧ IsG w b.2 a.v := fun a ha => by
    obtain ⟨j, hj, rfl⟩ := List.getElem_of_mem ha
    have hj' : j < p.ats.length := by rw [← h4.1]; exact hj
    exact ⟨p.ats[j], List.getElem_mem _, (h4.2 j hj hj').1, (h4.2 j hj hj').2.1⟩
  have hT : ∀ a ∈ rs, Told w a.v (zfB a.v) ∧ ToldR w a.v (zfB a.v) ∧ zfB a.v = 0 := fun a ha => by
    obtain ⟨b, hb, _, hg⟩ := hA a ha
    obtain ⟨t1, t2, t3⟩ := told_good (hp.ats b hb).2.2 hg
    rw [t3]
    exact ⟨t1, t2, rfl⟩
  have hN : ∀ a ∈ rs, nameB a.nm.data.toList = true ∧ a.nm.size ≤ 1000 := fun a ha => by
    obtain ⟨b, hb, e1, _⟩ := hA a ha
    rw [e1]
    exact ⟨(hp.ats b hb).1, (hp.ats b hb).2.1⟩
  have hps := hp.pl
  have hal := hp.al
  have hrl : rs.length = p.ats.length := h4.1
  have hok : EntOk w e p.ps rs zfB := ⟨by rw [hu]; exact ⟨by have := hp.u.2.1; omega, by have := hp.u.2.2; omega⟩, h.pl, by omega, h.rowU, fun u hu => ⟨by have := (hp.ps u hu).2.1; omega, by have := (hp.ps u hu).2.2; omega⟩, h1, by omega, h2, fun a ha => by have := (hN a ha).2; omega, fun a ha => (hT a ha).1⟩
  refine ⟨rs, ⟨hok, ⟨by omega, by omega⟩, fun u hu => ⟨by have := (hp.ps u hu).2.1; omega, by have := (hp.ps u hu).2.2; omega⟩, fun a ha => by have := (hN a ha).2; omega, fun a ha => (hT a ha).2.1⟩, ?_, fun a ha => ⟨(hT a ha).1, (hT a ha).2.1⟩⟩
  have c1 : chk2 (e4u e) = 0 := by rw [hu]; exact hp.u.1
  have c2 : chkRowU p.ps = 0 := by
    unfold chkRowU
    rw [rowE_ok 4 p.ps (fun u hu => (hp.ps u hu).1) hp.rise, if_neg (by omega)]
  have c3 : chkRowA zfB rs = 0 := by
    unfold chkRowA
    rw [rowE_ok 5 rs (fun a ha => ?_) ?_, if_neg (by omega)]
    · refine List.pairwise_iff_getElem.2 fun i j hi hj hij => ?_
      have h5 := List.pairwise_iff_getElem.1 hp.riseA i j (by omega) (by omega) hij
      unfold lessN
      rw [(h4.2 i hi (by omega)).1, (h4.2 j hj (by omega)).1]
      exact h5
    · unfold chkA
      rw [(hN a ha).1, (hT a ha).2.2]
      rfl
  unfold chkE or3
  rw [c1, c2, c3]
  rfl
end Go.Proofs.YtnbbimcooilmdaaGreat

namespace Go.Proofs.YtnbbimcooilmdaaGreat
open Go.RowKit Go.Sort

/-- Not too much. -/
structure Few8 (e : E4) (us : List U2) (ats : List A8) : Prop where
  own : e.t.size ≤ 300 ∧ e.i.size ≤ 300
  ul : us.length ≤ 10
  al : ats.length ≤ 10
  us : ∀ u ∈ us, u.t.size ≤ 300 ∧ u.i.size ≤ 300
  ats : ∀ a ∈ ats, a.nm.size ≤ 100 ∧ a.v.ll = 0 ∧ a.v.s.size ≤ 300 ∧ a.v.t.size ≤ 300 ∧ a.v.i.size ≤ 300
def FewPost8 (e : E4) (us : List U2) (ats : List A8) (w : World) (x : Ending) (w' : World) : Prop := ∃ b, x = .returned (.bool b) ∧ Below w.heap.size w w' ∧ (b = true → Few8 e us ats)
theorem fewPost8_no {e : E4} {us : List U2} {ats : List A8} {w w' : World} (h : Below w.heap.size w w') : FewPost8 e us ats w (.returned (.bool false)) w' := ⟨false, rfl, h, fun h => by cases h⟩

set_option maxHeartbeats 8000000 in
set_option maxRecDepth 1000000 in
theorem few8_any (e : E4) (us : List U2) (ats : List A8) (w : World) (H : EntI w e us ats) :
    Calls Tryz.prog 6 #[e.val] w (FewPost8 e us ats w) := by
  obtain ⟨et, ei, po, m, pc, ao, n, ac⟩ := e
  have hpl : m = us.length := H.pl
  have hal : n = ats.length := H.al
  subst hpl hal
  have hul : us.length ≤ 9223372036854775807 := H.ul
  have haal : ats.length ≤ 9223372036854775807 := H.aal
  have hs0 : et.size ≤ 140737488355328 := H.own.1
  have hs1 : ei.size ≤ 140737488355328 := H.own.2
  have HrU : Hid (RowG w po 2 (us.map U2.cells)) := hide H.rowU
  have HrA : Hid (RowG w ao 8 (ats.map A8.cells)) := hide H.rowA
  have HsU := hide H.smallU
  have HsA := hide H.smallA
  clear H
  have b1 := below1 w (.cells #[.string et, .string ei, .slice po us.length pc, .slice ao ats.length ac] 29)
  have z1 := size1 w (.cells #[.string et, .string ei, .slice po us.length pc, .slice ao ats.length ac] 29)
  have hV1 : w.heap.size < (w.alloc (.cells #[.string et, .string ei, .slice po us.length pc, .slice ao ats.length ac] 29)).heap.size := by omega
  have H1 := hide (alloc_heap w (.cells #[.string et, .string ei, .slice po us.length pc, .slice ao ats.length ac] 29))
  have ew : IntKind.i64.wrap ((et.size : Int) + (ei.size : Int)) = (et.size : Int) + (ei.size : Int) := by rw [IntKind.wrap_i64]; omega
  unfold E4.val
  simp only
  clear z1
  by_cases h300 : 300 < et.size + ei.size
  · have i3 : (300 : Int) < (et.size : Int) + (ei.size : Int) := by omega
    go_enter Tryz.func6, Tryz.ntmps6
    go_wp2
    go_ret
    exact fewPost8_no b1
  have i3 : ¬ (300 : Int) < (et.size : Int) + (ei.size : Int) := by omega
  by_cases hu10 : 10 < us.length
  · have i4 : (10 : Int) < (us.length : Int) := by omega
    go_enter Tryz.func6, Tryz.ntmps6
    go_wp2
    go_ret
    exact fewPost8_no b1
  have i4 : ¬ (10 : Int) < (us.length : Int) := by omega
  by_cases ha10 : 10 < ats.length
  · have i5 : (10 : Int) < (ats.length : Int) := by omega
    go_enter Tryz.func6, Tryz.ntmps6
    go_wp2
    go_ret
    exact fewPost8_no b1
  have i5 : ¬ (10 : Int) < (ats.length : Int) := by omega
  go_enter Tryz.func6, Tryz.ntmps6
  go_wp2
  generalize w.alloc _ = w1 at *
  go_loopw [3] (fun iv wr => ∃ i : Nat, iv = .int .i64 i ∧ i ≤ us.length ∧ Below w1.heap.size w1 wr ∧ ∀ k (h : k < us.length), k < i → us[k].t.size ≤ 300 ∧ us[k].i.size ≤ 300) (fun iv _ => us.length - (intOf iv).toNat)
  case atStart => exact ⟨0, by go_num, Nat.zero_le _, Below.refl _ _, fun k _ h => absurd h (Nat.not_lt_zero _)⟩
  case round =>
    obtain ⟨j, rfl, hj, hbw, hlow⟩ := hrel
    have b0w := b1.trans (hbw.mono b1.size)
    have ck0 : (0 : Int) ≤ (j : Int) := by omega
    have cV : wr.cell? ⟨w.heap.size, 2, none⟩ = some (.slice po us.length pc) := by rw [Lib.cell_of_heap (kept_of_below hbw (unhide H1))]; rfl
    have Hlow := hide hlow
    clear hlow
    by_cases hlt : j < us.length
    · have i1 : (j : Int) < (us.length : Int) := by omega
      obtain ⟨b, off, rfl, hb, hcell⟩ := rowG_at (unhide HrU) b0w hlt
      have A : AtE2 wr b (off + j * 2) us[j] := AtE2.of hcell
      have hsm := unhide HsU us[j] (List.getElem_mem _)
      obtain ⟨q, eq⟩ : ∃ q, q = us[j] := ⟨_, rfl⟩
      rw [← eq] at A hsm
      have HQ := hide eq
      clear eq hcell
      have g0 : q.t.size ≤ 140737488355328 := hsm.1
      have g1 : q.i.size ≤ 140737488355328 := hsm.2
      have ew2 : IntKind.i64.wrap ((q.t.size : Int) + (q.i.size : Int)) = (q.t.size : Int) + (q.i.size : Int) := by rw [IntKind.wrap_i64]; omega
      obtain ⟨a0, a1⟩ := A.up
      have v0 := cell_regrown cV
      clear A hsm
      obtain ⟨y, hy⟩ : ∃ y, y = decide ((300 : Int) < (q.t.size : Int) + (q.i.size : Int)) := ⟨_, rfl⟩
      have hy2 := hy.symm
      have HY := hide hy
      clear hy
      go_wp2_with fail
      refine wp_region_quiet_below (by kernel_rfl) (by kernel_rfl) ?_
      repeat (quiet_step (fail))
      refine wpQuiet_nil ?_
      intro _ hw'
      obtain ⟨⟨dq2, osq2⟩, hw''⟩ := hw'
      subst hw''
      have b6 := hbw.trans ((below_regrown wr dq2 osq2).mono hbw.size)
      generalize grow (redrawn wr dq2) osq2 = w6 at *
      clear a0 a1 v0 cV
      clear hy2
      cases y
      · have hn : ¬ ((300 : Int) < (q.t.size : Int) + (q.i.size : Int)) := of_decide_eq_false (unhide HY).symm
        have hn2 : q.t.size ≤ 300 ∧ q.i.size ≤ 300 := by omega
        have HN := hide hn2
        clear hn hn2
        go_wp2
        go_roundw
        case rel =>
          refine ⟨j + 1, by go_num, by omega, b6, fun k h hk => ?_⟩
          by_cases hkj : k < j
          · exact unhide Hlow k h hkj
          · obtain rfl : k = j := by omega
            rw [← unhide HQ]
            exact unhide HN
        case measure =>
          simp only [intOf]
          omega
      · go_wp2
        go_ret
        exact fewPost8_no (b1.trans (b6.mono b1.size))
    · have i1 : ¬ (j : Int) < (us.length : Int) := by omega
      have HU : Hid (∀ u ∈ us, u.t.size ≤ 300 ∧ u.i.size ≤ 300) := hide (fun u hu => by
        obtain ⟨k, hk, rfl⟩ := List.getElem_of_mem hu
        exact unhide Hlow k hk (by omega))
      have HH := hide (kept_of_below hbw (unhide H1))
      clear Hlow
      go_wp2
      clear cV i1 hlt ck0
      generalize wr = w3 at *
      go_loopw [4] (fun iv wr => ∃ i : Nat, iv = .int .i64 i ∧ i ≤ ats.length ∧ Below w3.heap.size w3 wr ∧ ∀ k (h : k < ats.length), k < i → ats[k].nm.size ≤ 100 ∧ ats[k].v.ll = 0 ∧ ats[k].v.s.size ≤ 300 ∧ ats[k].v.t.size ≤ 300 ∧ ats[k].v.i.size ≤ 300) (fun iv _ => ats.length - (intOf iv).toNat)
      case atStart => exact ⟨0, by go_num, Nat.zero_le _, Below.refl _ _, fun k _ h => absurd h (Nat.not_lt_zero _)⟩
      case round =>
        clear hj
        obtain ⟨j, rfl, hj, hbr, hlow⟩ := hrel
        have b0r := b0w.trans (hbr.mono b0w.size)
        have ck0 : (0 : Int) ≤ (j : Int) := by omega
        have cV : wr.cell? ⟨w.heap.size, 3, none⟩ = some (.slice ao ats.length ac) := by rw [Lib.cell_of_heap (kept_of_below hbr (unhide HH))]; rfl
        have Hlow := hide hlow
        clear hlow
        by_cases hlt : j < ats.length
        · have i1 : (j : Int) < (ats.length : Int) := by omega
          obtain ⟨b, off, rfl, hb, hcell⟩ := rowG_at (unhide HrA) b0r hlt
          have A : AtE8 wr b (off + j * 8) ats[j] := AtE8.of hcell
          have hsm := unhide HsA ats[j] (List.getElem_mem _)
          obtain ⟨q, eq⟩ : ∃ q, q = ats[j] := ⟨_, rfl⟩
          rw [← eq] at A hsm
          have HQ := hide eq
          clear eq hcell
          obtain ⟨g0, g1, g2, g3⟩ := hsm
          have ew2 : IntKind.i64.wrap ((q.v.i.size : Int) + (q.v.t.size : Int)) = (q.v.i.size : Int) + (q.v.t.size : Int) := by rw [IntKind.wrap_i64]; omega
          obtain ⟨a0, a1, a2, a3, a4, a5, a6, a7⟩ := A.up
          have v0 := cell_regrown cV
          clear A
          by_cases he1 : (100 : Int) < (q.nm.size : Int)
          · have de1 : decide ((100 : Int) < (q.nm.size : Int)) = true := decide_eq_true he1
            go_wp2_with fail
            refine wp_region_quiet_below (by kernel_rfl) (by kernel_rfl) ?_
            repeat (first | go_big_quiet_step (fail) | quiet_step (fail))
            refine wpQuiet_nil ?_
            intro _ hw'
            obtain ⟨⟨dq2, osq2⟩, hw''⟩ := hw'
            subst hw''
            have b6 := hbr.trans ((below_regrown wr dq2 osq2).mono hbr.size)
            have b06 := b0r.trans ((below_regrown wr dq2 osq2).mono b0r.size)
            generalize grow (redrawn wr dq2) osq2 = w6 at *
            clear a0 a1 a2 a3 a4 a5 a6 a7 v0 cV
            go_wp2
            go_ret
            exact fewPost8_no b06
          have de1 : decide ((100 : Int) < (q.nm.size : Int)) = false := decide_eq_false he1
          by_cases he2 : (0 : Int) < (q.v.ll : Int)
          · have de2 : decide ((0 : Int) < (q.v.ll : Int)) = true := decide_eq_true he2
            have de2n : decide (0 < q.v.ll) = true := decide_eq_true (by omega)
            have de2m : 0 < q.v.ll := by omega
            go_wp2_with fail
            refine wp_region_quiet_below (by kernel_rfl) (by kernel_rfl) ?_
            repeat (first | go_big_quiet_step (fail) | quiet_step (fail))
            refine wpQuiet_nil ?_
            intro _ hw'
            obtain ⟨⟨dq2, osq2⟩, hw''⟩ := hw'
            subst hw''
            have b6 := hbr.trans ((below_regrown wr dq2 osq2).mono hbr.size)
            have b06 := b0r.trans ((below_regrown wr dq2 osq2).mono b0r.size)
            generalize grow (redrawn wr dq2) osq2 = w6 at *
            clear a0 a1 a2 a3 a4 a5 a6 a7 v0 cV
            go_wp2
            go_ret
            exact fewPost8_no b06
          have de2 : decide ((0 : Int) < (q.v.ll : Int)) = false := decide_eq_false he2
          have de2n : decide (0 < q.v.ll) = false := decide_eq_false (by omega)
          have de2m : q.v.ll = 0 := by omega
          by_cases he3 : (300 : Int) < (q.v.s.size : Int)
          · have de3 : decide ((300 : Int) < (q.v.s.size : Int)) = true := decide_eq_true he3
            go_wp2_with fail
            refine wp_region_quiet_below (by kernel_rfl) (by kernel_rfl) ?_
            repeat (first | go_big_quiet_step (fail) | quiet_step (fail))
            refine wpQuiet_nil ?_
            intro _ hw'
            obtain ⟨⟨dq2, osq2⟩, hw''⟩ := hw'
            subst hw''
            have b6 := hbr.trans ((below_regrown wr dq2 osq2).mono hbr.size)
            have b06 := b0r.trans ((below_regrown wr dq2 osq2).mono b0r.size)
            generalize grow (redrawn wr dq2) osq2 = w6 at *
            clear a0 a1 a2 a3 a4 a5 a6 a7 v0 cV
            go_wp2
            go_ret
            exact fewPost8_no b06
          have de3 : decide ((300 : Int) < (q.v.s.size : Int)) = false := decide_eq_false he3
          by_cases he4 : (300 : Int) < (q.v.i.size : Int) + (q.v.t.size : Int)
          · have de4 : decide ((300 : Int) < (q.v.i.size : Int) + (q.v.t.size : Int)) = true := decide_eq_true he4
            go_wp2_with fail
            refine wp_region_quiet_below (by kernel_rfl) (by kernel_rfl) ?_
            repeat (first | go_big_quiet_step (fail) | quiet_step (fail))
            refine wpQuiet_nil ?_
            intro _ hw'
            obtain ⟨⟨dq2, osq2⟩, hw''⟩ := hw'
            subst hw''
            have b6 := hbr.trans ((below_regrown wr dq2 osq2).mono hbr.size)
            have b06 := b0r.trans ((below_regrown wr dq2 osq2).mono b0r.size)
            generalize grow (redrawn wr dq2) osq2 = w6 at *
            clear a0 a1 a2 a3 a4 a5 a6 a7 v0 cV
            go_wp2
            go_ret
            exact fewPost8_no b06
          have de4 : decide ((300 : Int) < (q.v.i.size : Int) + (q.v.t.size : Int)) = false := decide_eq_false he4
          have HN := hide (show q.nm.size ≤ 100 ∧ q.v.ll = 0 ∧ q.v.s.size ≤ 300 ∧ q.v.t.size ≤ 300 ∧ q.v.i.size ≤ 300 by omega)
          go_wp2_with fail
          refine wp_region_quiet_below (by kernel_rfl) (by kernel_rfl) ?_
          repeat (first | go_big_quiet_step (fail) | quiet_step (fail))
          refine wpQuiet_nil ?_
          intro _ hw'
          obtain ⟨⟨dq2, osq2⟩, hw''⟩ := hw'
          subst hw''
          have b6 := hbr.trans ((below_regrown wr dq2 osq2).mono hbr.size)
          have b06 := b0r.trans ((below_regrown wr dq2 osq2).mono b0r.size)
          generalize grow (redrawn wr dq2) osq2 = w6 at *
          clear a0 a1 a2 a3 a4 a5 a6 a7 v0 cV
          go_wp2
          go_roundw
          case rel =>
            refine ⟨j + 1, by go_num, by omega, b6, fun k h hk => ?_⟩
            by_cases hkj : k < j
            · exact unhide Hlow k h hkj
            · obtain rfl : k = j := by omega
              rw [← unhide HQ]
              exact unhide HN
          case measure =>
            simp only [intOf]
            omega
        · have i1 : ¬ (j : Int) < (ats.length : Int) := by omega
          have HF : Hid (Few8 ⟨et, ei, po, us.length, pc, ao, ats.length, ac⟩ us ats) := hide ⟨⟨show et.size ≤ 300 by omega, show ei.size ≤ 300 by omega⟩, by omega, by omega, unhide HU, fun a ha => by
            obtain ⟨k, hk, rfl⟩ := List.getElem_of_mem ha
            exact unhide Hlow k hk (by omega)⟩
          go_wp2
          go_ret
          exact ⟨true, rfl, b0r, fun _ => unhide HF⟩
end Go.Proofs.YtnbbimcooilmdaaGreat

namespace Go.Proofs.YtnbbimcooilmdaaGreat
open Go.RowKit Go.Sort

theorem within8_any (a n : Int) (hn : 0 < n) (hn1 : n ≤ 4294967296) (w : World) :
    Calls Tryz.prog 10 #[.int .i64 a, .int .i64 n] w fun e w' => e = .returned (.int .i64 (a % n)) ∧ w' = w := by
  go_enter Tryz.func10, Tryz.ntmps10
  go_wp2
  · go_ret
    exact ⟨ret_int5 (tmod_neg a n hn hn1 (by assumption)), rfl⟩
  · go_ret
    exact ⟨ret_int5 (tmod_pos a n hn (by assumption)), rfl⟩
/-- Both tell the same. -/
theorem both_check (xs : List E4) (ao : Option Addr) (cap : Nat) (w : World) (hl : xs.length ≤ 1048576) (hr : RowG w ao 4 (xs.map E4.cells)) (H : ∀ e ∈ xs, ∃ us ats, EntB w e us ats zfB) :
    ∃ z : Int, (∀ w', Below w.heap.size w w' → Calls Tryz.prog 8 #[.slice ao xs.length cap] w' fun x w'' => x = .returned (.int .i64 z) ∧ Below w'.heap.size w' w'') ∧
      (∀ w', Below w.heap.size w w' → Calls Tryz.prog 9 #[.slice ao xs.length cap] w' fun x w'' => x = .returned (.int .i64 z) ∧ Below w'.heap.size w' w'') := by
  have H2 : ∀ e : E4, ∃ z : Int, e ∈ xs → ∃ us ats, EntB w e us ats zfB ∧ z = chkE (e4u e) us ats zfB := fun e => by
    by_cases he : e ∈ xs
    · obtain ⟨us, ats, h⟩ := H e he
      exact ⟨_, fun _ => ⟨us, ats, h, rfl⟩⟩
    · exact ⟨0, fun h => absurd h he⟩
  obtain ⟨cf, hcf⟩ := Classical.axiomOfChoice H2
  refine ⟨rowE cf lessE 16 xs, fun w' hb => ?_, fun w' hb => ?_⟩
  · refine echeck_any xs ao cap cf w' hl (hr.below hb) fun e he => ?_
    obtain ⟨us, ats, h, hz⟩ := hcf e he
    exact ⟨us, ats, zfB, (h.below hb).ok, hz⟩
  · refine r8check_any xs ao cap cf w' hl (hr.below hb) fun e he => ?_
    obtain ⟨us, ats, h, hz⟩ := hcf e he
    exact ⟨us, ats, zfB, h.below hb, hz⟩
theorem good_check (es : List E4) (ps : List EntP) (ao : Option Addr) (cap : Nat) (w : World) (hr : RowG w ao 4 (es.map E4.cells)) (hA : AllEnt w (fun _ => True) es ps) (hok : ∀ p ∈ ps, OkEnt p) (hri : RisingP ps) (hl : ps.length ≤ 12) :
    ∀ w', Below w.heap.size w w' → Calls Tryz.prog 8 #[.slice ao es.length cap] w' fun x w'' => x = .returned (.int .i64 0) ∧ Below w'.heap.size w' w'' := fun w' hb => by
  have hel := hA.1
  have h := echeck_any es ao cap (fun _ => 0) w' (by omega) (hr.below hb) fun e he => by
    obtain ⟨j, hj, rfl⟩ := List.getElem_of_mem he
    have hj' : j < ps.length := by omega
    obtain ⟨ats, h1, h2, _⟩ := entB_good (hok _ (List.getElem_mem hj')) ((hA.2 j hj hj').below hb)
    exact ⟨_, ats, zfB, h1.ok, h2.symm⟩
  have hz : rowE (fun _ => (0 : Int)) lessE 16 es = 0 := by
    rw [rowE_ok 16 es (fun _ _ => rfl) ?_, if_neg (by omega)]
    exact List.pairwise_map.1 (rising_of hA hri)
  rw [hz] at h
  exact h
theorem entB_all {w : World} {es : List E4} {ps : List EntP} (hA : AllEnt w (fun _ => True) es ps) (hok : ∀ p ∈ ps, OkEnt p) : ∀ e ∈ es, ∃ us ats, EntB w e us ats zfB := fun e he => by
  obtain ⟨j, hj, rfl⟩ := List.getElem_of_mem he
  have hj' : j < ps.length := by have := hA.1; omega
  obtain ⟨ats, h1, _, _⟩ := entB_good (hok _ (List.getElem_mem hj')) (hA.2 j hj hj')
  exact ⟨_, ats, h1⟩
/-- An entity that came in, and is not too much. -/
theorem entB_few {w : World} {e : E4} {us : List U2} {ats : List A8} (h : EntI w e us ats) (hf : Few8 e us ats) : EntB w e us ats zfB := by
  have ht : ∀ a ∈ ats, Told w a.v (zfB a.v) ∧ ToldR w a.v (zfB a.v) := fun a ha => by
    obtain ⟨h0, h1, h2, h3, h4⟩ := hf.ats a ha
    exact told_flat w a.v h1 ⟨by omega, by omega, by omega⟩
  have h0 := hf.own
  have hu := hf.ul
  have ha := hf.al
  exact ⟨⟨⟨show e.t.size ≤ _ by omega, show e.i.size ≤ _ by omega⟩, h.pl, by omega, h.rowU, fun u hu => ⟨by have := (hf.us u hu).1; omega, by have := (hf.us u hu).2; omega⟩, h.al, by omega, h.rowA, fun a ha => by have := (hf.ats a ha).1; omega, fun a ha => (ht a ha).1⟩,
    ⟨by omega, by omega⟩, fun u hu => ⟨by have := (hf.us u hu).1; omega, by have := (hf.us u hu).2; omega⟩, fun a ha => by have := (hf.ats a ha).1; omega, fun a ha => (ht a ha).2⟩
/-- Parts of two. -/
theorem entB_u {w : World} {e f : E4} {us us' : List U2} {ats ats' : List A8} (h : EntB w e us ats zfB) (h' : EntB w f us' ats' zfB) : EntB w ⟨f.t, f.i, e.po, e.pl, e.pc, e.ao, e.al, e.ac⟩ us ats zfB :=
  ⟨⟨h'.ok.own, h.ok.pl, h.ok.ul, h.ok.rowU, h.ok.smallU, h.ok.al, h.ok.aal, h.ok.rowA, h.ok.smallA, h.ok.told⟩, h'.own, h.us, h.nms, h.told⟩
theorem entB_p {w : World} {e f : E4} {us us' : List U2} {ats ats' : List A8} (h : EntB w e us ats zfB) (h' : EntB w f us' ats' zfB) : EntB w ⟨e.t, e.i, f.po, f.pl, f.pc, e.ao, e.al, e.ac⟩ us' ats zfB :=
  ⟨⟨h.ok.own, h'.ok.pl, h'.ok.ul, h'.ok.rowU, h'.ok.smallU, h.ok.al, h.ok.aal, h.ok.rowA, h.ok.smallA, h.ok.told⟩, h.own, h'.us, h.nms, h.told⟩
theorem entB_a {w : World} {e f : E4} {us us' : List U2} {ats ats' : List A8} (h : EntB w e us ats zfB) (h' : EntB w f us' ats' zfB) : EntB w ⟨e.t, e.i, e.po, e.pl, e.pc, f.ao, f.al, f.ac⟩ us ats' zfB :=
  ⟨⟨h.ok.own, h.ok.pl, h.ok.ul, h.ok.rowU, h.ok.smallU, h'.ok.al, h'.ok.aal, h'.ok.rowA, h'.ok.smallA, h'.ok.told⟩, h.own, h.us, h'.nms, h'.told⟩
end Go.Proofs.YtnbbimcooilmdaaGreat

namespace Go.Proofs.YtnbbimcooilmdaaGreat
open Go.RowKit Go.Sort

/-- A row in whose j-th element some cells from c on are set. -/
theorem rowG_part {w : World} {g n j c : Nat} {l : List (List Value)} {x vs : List Value} (hn : ∀ y ∈ l, y.length = n) (h : RowG w (some ⟨g, 0, none⟩) n l) (hj : j < l.length) (hc : c + vs.length ≤ n) (h0 : ∀ k, k < c ∨ c + vs.length ≤ k → x[k]? = (l[j])[k]?) (h1 : ∀ k, k < vs.length → x[c + k]? = vs[k]?) :
    RowG (w.setCells g (j * n + c) vs) (some ⟨g, 0, none⟩) n (l.set j x) := by
  have hlj : (l[j]).length = n := hn _ (List.getElem_mem hj)
  obtain ⟨b, off, e, hb, hcell⟩ := h j hj
  cases e
  have hsome : ∀ k, k < vs.length → (w.cell? ⟨g, j * n + c + k, none⟩).isSome = true := fun k hk => by
    have hck : c + k < (l[j]).length := by omega
    have := hcell (c + k) _ (List.getElem?_eq_getElem hck)
    rw [show 0 + j * n + (c + k) = j * n + c + k by omega] at this
    rw [this]
    rfl
  intro i hi
  have hi' : i < l.length := by simpa using hi
  refine ⟨g, 0, rfl, by rw [size_setCells]; exact hb, fun d v hv => ?_⟩
  rw [Nat.zero_add]
  by_cases hij : j = i
  · subst hij
    rw [List.getElem_set_self] at hv
    by_cases hd : d < c ∨ c + vs.length ≤ d
    · rw [World.cell?_setCells_out g vs _ w _ (fun _ _ => by
        show j * n + d < j * n + c ∨ j * n + c + vs.length ≤ j * n + d
        omega)]
      have := hcell d v ((h0 d hd).symm.trans hv)
      rwa [Nat.zero_add] at this
    · obtain ⟨k, rfl⟩ : ∃ k, d = c + k := ⟨d - c, by omega⟩
      have hk : k < vs.length := by omega
      rw [h1 k hk] at hv
      obtain ⟨hk, rfl⟩ := List.getElem?_eq_some_iff.1 hv
      rw [← Nat.add_assoc]
      exact World.cell?_setCells_in g vs _ w hsome k hk
  · rw [List.getElem_set_ne hij] at hv
    obtain ⟨b', off', e', _, hcell'⟩ := h i hi'
    cases e'
    have hd : d < n := by
      have := (List.getElem?_eq_some_iff.1 hv).1
      rwa [hn _ (List.getElem_mem hi')] at this
    have := hcell' d v hv
    rw [Nat.zero_add] at this
    rw [← this]
    refine World.cell?_setCells_out g vs _ w _ (fun _ _ => ?_)
    show i * n + d < j * n + c ∨ j * n + c + vs.length ≤ i * n + d
    rcases Nat.lt_or_ge i j with h2 | h2
    · have := Nat.mul_le_mul_right n (Nat.succ_le_of_lt h2)
      rw [Nat.succ_mul] at this
      omega
    · have := Nat.mul_le_mul_right n (Nat.succ_le_of_lt (Nat.lt_of_le_of_ne h2 hij))
      rw [Nat.succ_mul] at this
      omega
theorem mem_set_or {α : Type} {l : List α} {k : Nat} {x a : α} (h : a ∈ l.set k x) : a = x ∨ a ∈ l := by
  obtain ⟨i, hi, rfl⟩ := List.getElem_of_mem h
  rw [List.getElem_set]
  split
  · exact .inl rfl
  · exact .inr (List.getElem_mem _)
/-- One element of a row of one's own turned: both checks tell the same. -/
theorem both_turned {w5 w9 : World} {gs : List E4} {k c g cap : Nat} {x' : E4} {vs : List Value} (hr : RowG w9 (some ⟨g, 0, none⟩) 4 (gs.map E4.cells)) (hk : k < gs.length) (hb : Below w5.heap.size w5 w9) (hg : w5.heap.size ≤ g) (hl : gs.length ≤ 1048576) (hc : c + vs.length ≤ 4) (h0 : ∀ j, j < c ∨ c + vs.length ≤ j → x'.cells[j]? = (gs[k]).cells[j]?) (h1 : ∀ j, j < vs.length → x'.cells[c + j]? = vs[j]?)
    (H : ∀ e ∈ gs, ∃ us ats, EntB w5 e us ats zfB) (Hx : ∃ us ats, EntB w5 x' us ats zfB) :
    Below w5.heap.size w5 (w9.setCells g (k * 4 + c) vs) ∧ ∃ z : Int, (∀ w', Below (w9.setCells g (k * 4 + c) vs).heap.size (w9.setCells g (k * 4 + c) vs) w' → Calls Tryz.prog 8 #[.slice (some ⟨g, 0, none⟩) gs.length cap] w' fun x w'' => x = .returned (.int .i64 z) ∧ Below w'.heap.size w' w'') ∧
      (∀ w', Below (w9.setCells g (k * 4 + c) vs).heap.size (w9.setCells g (k * 4 + c) vs) w' → Calls Tryz.prog 9 #[.slice (some ⟨g, 0, none⟩) gs.length cap] w' fun x w'' => x = .returned (.int .i64 z) ∧ Below w'.heap.size w' w'') := by
  have hb2 := belowSetCells (b := g) vs (k * 4 + c) w9 hb hg
  refine ⟨hb2, ?_⟩
  have h := both_check (gs.set k x') (some ⟨g, 0, none⟩) cap (w9.setCells g (k * 4 + c) vs) (by rw [List.length_set]; exact hl) (by
    rw [List.map_set]
    exact rowG_part (lenE gs) hr (by rw [List.length_map]; exact hk) hc (fun j hj => by rw [List.getElem_map]; exact h0 j hj) h1) (fun e he => by
    rcases mem_set_or he with rfl | he
    · obtain ⟨us, ats, h⟩ := Hx
      exact ⟨us, ats, h.below hb2⟩
    · obtain ⟨us, ats, h⟩ := H e he
      exact ⟨us, ats, h.below hb2⟩)
  rwa [List.length_set] at h

set_option maxHeartbeats 8000000 in
set_option maxRecDepth 1000000 in
theorem echecks_walk (lo : Option Addr) (es : List E4) (lc : Nat) (l2 : Option Addr) (rs : List EntR) (lc2 : Nat) (at_ : Int) (te : E4) (tus : List U2) (tats : List A8) (wh : Int) (w : World)
    (hl : es.length ≤ 9223372036854775807) (hr : EntsI w lo es) (hl2 : rs.length ≤ 9223372036854775807) (hr2 : RowEnt w l2 rs) (ht : EntI w te tus tats) :
    Calls Tryz.prog 3 #[.slice lo es.length lc, .slice l2 rs.length lc2, .int .i64 at_, te.val, .int .i64 wh] w fun e w' => e = .returned (.bool true) ∧ Below w.heap.size w w' := by
  obtain ⟨i0, hi, hz0, hz1, hz2⟩ := info_parts infoEntG
  have b1 := below1 w (.cells #[.string te.t, .string te.i, .slice te.po te.pl te.pc, .slice te.ao te.al te.ac] 29)
  have z1 := size1 w (.cells #[.string te.t, .string te.i, .slice te.po te.pl te.pc, .slice te.ao te.al te.ac] 29)
  have hV1 : w.heap.size < (w.alloc (.cells #[.string te.t, .string te.i, .slice te.po te.pl te.pc, .slice te.ao te.al te.ac] 29)).heap.size := by omega
  have A1 : AtE4 (w.alloc (.cells #[.string te.t, .string te.i, .slice te.po te.pl te.pc, .slice te.ao te.al te.ac] 29)) w.heap.size 0 te := ⟨by simp, by simp, by simp, by simp⟩
  have HR := hide hr
  have HR2 := hide hr2
  have HT := hide ht
  clear hr hr2 ht z1
  unfold E4.val
  go_enter Tryz.func3, Tryz.ntmps3
  go_wp2_with fail
  generalize w.alloc _ = w1 at *
  refine (known8_any w1).mono ?_
  rintro _ w2 ⟨rfl, b2⟩
  have b02 := b1.trans (b2.mono b1.size)
  have hV2 : w.heap.size < w2.heap.size := Nat.lt_of_lt_of_le hV1 b2.size
  have A2 := A1.below b2 hV1
  clear A1
  by_cases h20 : 20 < es.length
  · have i20 : (20 : Int) < (es.length : Int) := by omega
    go_wp2
    go_ret
    exact ⟨rfl, b02⟩
  have i20 : ¬ (20 : Int) < (es.length : Int) := by omega
  have F := few8_any te tus tats w2 ((unhide HT).below b02)
  unfold E4.val at F
  have Ac := A2
  obtain ⟨a0, a1, a2, a3⟩ := Ac
  simp only [Nat.zero_add] at a1 a2 a3
  go_wp2_with fail
  clear a0 a1 a2 a3
  refine F.mono ?_
  clear F
  rintro _ w3 ⟨fb, rfl, b3, hf⟩
  have b03 := b02.trans (b3.mono b02.size)
  have hV3 : w.heap.size < w3.heap.size := Nat.lt_of_lt_of_le hV2 b3.size
  have A3 := A2.below b3 hV2
  clear A2
  cases fb
  · clear A3
    go_wp2
    go_ret
    exact ⟨rfl, b03⟩
  have HF := hide (hf rfl)
  clear hf
  go_wp2
  go_loopw [11] (fun iv wr => ∃ i : Nat, iv = .int .i64 i ∧ i ≤ es.length ∧ Below w3.heap.size w3 wr ∧ ∀ k (h : k < es.length), k < i → ∃ us ats, EntI w es[k] us ats ∧ Few8 es[k] us ats) (fun iv _ => es.length - (intOf iv).toNat)
  case atStart => exact ⟨0, by go_num, Nat.zero_le _, Below.refl _ _, fun k _ h => absurd h (Nat.not_lt_zero _)⟩
  case round =>
    obtain ⟨j, rfl, hj, hbw, hlow⟩ := hrel
    have b0w := b03.trans (hbw.mono b03.size)
    have ck0 : (0 : Int) ≤ (j : Int) := by omega
    have Hlow := hide hlow
    clear hlow
    by_cases hlt : j < es.length
    · have i1 : (j : Int) < (es.length : Int) := by omega
      obtain ⟨b, off, rfl, hb, hcell⟩ := rowG_at (unhide HR).1 b0w hlt
      have A : AtE4 wr b (off + j * 4) es[j] := AtE4.of hcell
      obtain ⟨us, ats, hI⟩ := (unhide HR).2 es[j] (List.getElem_mem _)
      have F := few8_any es[j] us ats wr (hI.below b0w)
      have HI := hide hI
      obtain ⟨q, eq⟩ : ∃ q, q = es[j] := ⟨_, rfl⟩
      rw [← eq] at A F HI
      have HQ := hide eq
      clear eq hcell hI
      unfold E4.val at F
      obtain ⟨a0, a1, a2, a3⟩ := A
      go_wp2_with fail
      clear a0 a1 a2 a3
      refine F.mono ?_
      clear F
      rintro _ w4 ⟨fb, rfl, b4, hf⟩
      have b34 := hbw.trans (b4.mono hbw.size)
      cases fb
      · go_wp2
        go_ret
        exact ⟨rfl, b03.trans (b34.mono b03.size)⟩
      · have HFj := hide (hf rfl)
        clear hf
        go_wp2
        go_roundw
        case rel =>
          refine ⟨j + 1, by go_num, by omega, b34, fun k h hk => ?_⟩
          by_cases hkj : k < j
          · exact unhide Hlow k h hkj
          · obtain rfl : k = j := by omega
            rw [← unhide HQ]
            exact ⟨us, ats, unhide HI, unhide HFj⟩
        case measure =>
          simp only [intOf]
          omega
    · have i1 : ¬ (j : Int) < (es.length : Int) := by omega
      have hRB : ∀ e ∈ es, ∃ us ats, EntB wr e us ats zfB := fun e he => by
        obtain ⟨k, hk, rfl⟩ := List.getElem_of_mem he
        obtain ⟨us, ats, h1, h2⟩ := unhide Hlow k hk (by omega)
        exact ⟨us, ats, entB_few (h1.below b0w) h2⟩
      obtain ⟨z, CE, CR⟩ := both_check es lo lc wr (by omega) ((unhide HR).1.below b0w) hRB
      have G := good8_any l2 rs lc2 wr hl2 ((unhide HR2).below b0w)
      have A4 := A3.below hbw hV3
      have hV4 : w.heap.size < wr.heap.size := Nat.lt_of_lt_of_le hV3 hbw.size
      clear A3 hRB Hlow
      go_wp2_with fail
      generalize wr = w4 at *
      refine G.mono ?_
      clear G
      rintro _ w5 ⟨b5, go, gcap, gs, rfl, hgr, hgA, hgc⟩
      have b05 := b0w.trans (b5.mono b0w.size)
      have hgl2 : gs.length ≤ 12 := by
        have h1 := goodsL_len rs
        have h2 := hgA.1
        omega
      have hgl : gs.length ≤ 1048576 := by omega
      have CG := good_check gs (goodsL rs) go gcap w5 hgr hgA (okEnt_goods rs) (goodsL_rising rs) (goodsL_len rs)
      have HGB := hide (entB_all hgA (okEnt_goods rs))
      have HGR := hide hgr
      have A5 := A4.below b5 hV4
      have hV5 : w.heap.size < w5.heap.size := Nat.lt_of_lt_of_le hV4 b5.size
      clear hgA hgr A4
      have hzz : (z == z) = true := by simp
      go_wp2_with fail
      refine (CE _ b5).mono ?_
      rintro _ w6 ⟨rfl, b6⟩
      have b46 := b5.trans (b6.mono b5.size)
      go_wp2_with fail
      refine (CR _ b46).mono ?_
      rintro _ w7 ⟨rfl, b7⟩
      have b47 := b46.trans (b7.mono b46.size)
      have b57 := b6.trans (b7.mono b6.size)
      go_wp2_with fail
      refine (CG _ b57).mono ?_
      rintro _ w8 ⟨rfl, b8⟩
      have b48 := b47.trans (b8.mono b47.size)
      have b58 := b57.trans (b8.mono b57.size)
      by_cases hg0 : gs.length = 0
      · have e0 : ((gs.length : Int) == 0) = true := by rw [hg0]; rfl
        clear A5 hg0
        go_wp2_with fail
        refine (CE _ b48).mono ?_
        rintro _ w9 ⟨rfl, b9⟩
        have b49 := b48.trans (b9.mono b48.size)
        go_wp2_with fail
        refine (CR _ b49).mono ?_
        rintro _ w10 ⟨rfl, b10⟩
        have b4a := b49.trans (b10.mono b49.size)
        clear CE CR CG
        go_wp2
        go_ret
        exact ⟨rfl, b0w.trans (b4a.mono b0w.size)⟩
      have e0 : ((gs.length : Int) == 0) = false := by
        rw [beq_eq_false_iff_ne]
        omega
      clear CE CR CG
      obtain ⟨gb, goff, rfl, hgb, _⟩ := rowG_at (unhide HGR) (Below.refl _ _) (j := 0) (by omega)
      have hclen : ((gs.map E4.cells).flatten).length = gs.length * 4 := by rw [flatG_len (n := 4) _ (lenE _), List.length_map]
      have Hcells := hide (fun j u hu => (b58.cell (p := (⟨gb, goff, none⟩ : Addr).add j) (by rw [Addr.add_lit]; exact hgb)).trans (row_flat (lenE gs) (unhide HGR) j u hu))
      have HcellsA := hide (fun j u (hu : ((gs.map E4.cells).flatten)[j]? = some u) => ((below1 w8 (.cells #[] 29)).cell (p := (⟨gb, goff, none⟩ : Addr).add j) (by rw [Addr.add_lit]; exact Nat.lt_of_lt_of_le hgb b58.size)).trans (unhide Hcells j u hu))
      go_wp2_with (at_builtin; refine wpList_append_own _ rfl _ _ 22 rfl w8.heap.size 29 i0 _ 4 80 Tryz.underlying22 hi hz0 hz1 hz2 rfl (by decide) _ _ _ rfl (World.ownsRow_made w8 #[] 0 (Nat.le_refl _) (Nat.zero_le _) rfl) ⟨gb, goff, none⟩ gs.length gcap ((gs.map E4.cells).flatten) rfl ?lA ?wA ?oA ?mA ?yA ?bA ?_)
      case lA => exact hclen
      case wA => exact unhide HcellsA
      case oA => exact oneE _
      case mA => unfold maxLen; omega
      case yA => omega
      case bA => simp
      intro v9 w9 hown9 hg9 _
      have b8a := below1 w8 (.cells #[] 29)
      have b89 : Below w8.heap.size w8 w9 := b8a.grown hg9 b8a.size (fun k hk => by cases hk; exact Nat.le_refl _)
      have b59 := b58.trans (b89.mono b58.size)
      have b09 := b05.trans (b59.mono b05.size)
      have A9 := A5.below b59 hV5
      have hown9 : w9.ownsRow w8.heap.size 29 4 v9 (gs.map E4.cells).length (gs.map E4.cells).flatten := by simpa using hown9
      obtain ⟨xo, xc, e9, hrow9, hxc, _⟩ := rowG_own (lenE gs) hown9
      rw [List.length_map] at e9 hxc
      obtain ⟨xg, xcap, xcur, e9', hBg, hheap, _⟩ : ∃ g cap cur, v9 = .slice (some ⟨g, 0, none⟩) gs.length cap ∧ w8.heap.size ≤ g ∧ w9.heap[g]? = some (.cells cur 29 (0, 0)) ∧ True := by
        rcases hown9.2 with ⟨_, h0⟩ | ⟨g, cap, cur, hv, hB, hg, _⟩
        · rw [List.length_map] at h0
          omega
        · rw [List.length_map] at hv
          exact ⟨g, cap, cur, hv, hB, hg, trivial⟩
      rw [e9] at e9'
      injection e9' with e91 e92 e93
      subst e91 e93 e9
      have Hown9 := hide hown9
      clear hown9 hg9 A5 b8a Hcells HcellsA
      have W1 := fun w' => within8_any at_ gs.length (by omega) (by omega) w'
      have W2 := fun w' => within8_any wh 4 (by decide) (by decide) w'
      obtain ⟨k, hk⟩ : ∃ k : Nat, (k : Int) = at_ % (gs.length : Int) := ⟨(at_ % (gs.length : Int)).toNat, by have := Int.emod_nonneg at_ (show (gs.length : Int) ≠ 0 by omega); omega⟩
      have hkn : k < gs.length := by have := Int.emod_lt_of_pos at_ (show (0 : Int) < (gs.length : Int) by omega); omega
      obtain ⟨c, hc⟩ : ∃ c : Nat, (c : Int) = wh % 4 := ⟨(wh % 4).toNat, by omega⟩
      have hc4 : c < 4 := by omega
      rw [← hk] at W1
      rw [← hc] at W2
      clear hk hc
      have ik : (k : Int) < (gs.length : Int) := by omega
      have ik0 : (0 : Int) ≤ (k : Int) := by omega
      obtain ⟨gx, hgx⟩ : ∃ gx, gx = gs[k] := ⟨_, rfl⟩
      have HGX : Hid (∃ us ats, EntB w5 gx us ats zfB) := hide (by rw [hgx]; exact unhide HGB _ (List.getElem_mem _))
      have hGc : gs[k].cells = gx.cells := by rw [hgx]
      obtain ⟨b', off', e', _, hcx⟩ := rowG_at hrow9 (Below.refl _ _) hkn
      cases e'
      have AX : AtE4 w9 xg (0 + k * 4) gs[k] := AtE4.of hcx
      rw [← hgx] at AX
      have HGc := hide hGc
      have HGxk := hide hgx
      clear hcx hgx hGc
      rw [Nat.zero_add] at AX
      have HTB : Hid (EntB w5 te tus tats zfB) := hide (entB_few ((unhide HT).below b05) (unhide HF))
      have dF : ∀ o, w9.frozen? ⟨xg, o, none⟩ = false := fun o => Lib.frozen_of_heap hheap o
      go_wp2_with fail
      refine (W1 _).mono ?_
      rintro _ wx ⟨rfl, hwx⟩
      have hwx := hwx.symm
      subst hwx
      go_wp2_with fail
      refine (W2 _).mono ?_
      rintro _ wx ⟨rfl, hwx⟩
      have hwx := hwx.symm
      subst hwx
      clear W1 W2
      obtain ⟨gus, gats, hGX⟩ := unhide HGX
      obtain ⟨a0, a1, a2, a3⟩ := A9
      obtain ⟨d0, d1, d2, d3⟩ := AX
      simp only [Nat.zero_add] at a1 a2 a3
      have hcc : c = 0 ∨ c = 1 ∨ c = 2 ∨ c = 3 := by omega
      have Hrow9 := hide hrow9
      clear hrow9 hheap
      rcases hcc with rfl | rfl | rfl | rfl
      · obtain ⟨b5a, z2, CE2, CR2⟩ := both_turned (w5 := w5) (k := k) (c := 0) (cap := xc) (x' := ⟨te.t, te.i, gx.po, gx.pl, gx.pc, gx.ao, gx.al, gx.ac⟩) (vs := [.string te.t, .string te.i]) (unhide Hrow9) hkn b59 (Nat.le_trans b58.size hBg) hgl (by simp) (fun j hj => by
          rw [unhide HGc]
          match j, hj with
          | 0, hj | 1, hj | 2, hj | 3, hj => first | rfl | (simp at hj)
          | _ + 4, _ => rfl) (fun j hj => by
          match j, hj with
          | 0, _ => rfl
          | 1, hj => first | rfl | (simp at hj)
          | _ + 2, hj =>
            simp only [List.length_cons, List.length_nil] at hj
            omega) (unhide HGB) ⟨_, _, entB_u hGX (unhide HTB)⟩
        simp only [World.setCells, Nat.add_zero] at b5a CE2 CR2
        have b0a := b05.trans (b5a.mono b05.size)
        have HCE := hide CE2
        have HCR := hide CR2
        clear CE2 CR2
        go_wp2_with fail
        generalize (w9.setCell ⟨xg, k * 4, none⟩ (.string te.t)).setCell ⟨xg, k * 4 + 1, none⟩ (.string te.i) = w11 at *
        refine (unhide HCE _ (Below.refl _ _)).mono ?_
        rintro _ w12 ⟨rfl, b12⟩
        go_wp2_with fail
        refine (unhide HCR _ b12).mono ?_
        rintro _ w13 ⟨rfl, b13⟩
        have hz2 : (z2 == z2) = true := by simp
        go_wp2
        go_ret
        exact ⟨rfl, b0a.trans ((b12.trans (b13.mono b12.size)).mono b0a.size)⟩
      · obtain ⟨b5a, z2, CE2, CR2⟩ := both_turned (w5 := w5) (k := k) (c := 2) (cap := xc) (x' := ⟨gx.t, gx.i, te.po, te.pl, te.pc, gx.ao, gx.al, gx.ac⟩) (vs := [.slice te.po te.pl te.pc]) (unhide Hrow9) hkn b59 (Nat.le_trans b58.size hBg) hgl (by simp) (fun j hj => by
          rw [unhide HGc]
          match j, hj with
          | 0, hj | 1, hj | 2, hj | 3, hj => first | rfl | (simp at hj)
          | _ + 4, _ => rfl) (fun j hj => by
          match j, hj with
          | 0, _ => rfl
          | 1, hj => first | rfl | (simp at hj)
          | _ + 2, hj =>
            simp only [List.length_cons, List.length_nil] at hj
            omega) (unhide HGB) ⟨_, _, entB_p hGX (unhide HTB)⟩
        simp only [World.setCells] at b5a CE2 CR2
        have b0a := b05.trans (b5a.mono b05.size)
        have HCE := hide CE2
        have HCR := hide CR2
        clear CE2 CR2
        go_wp2_with fail
        generalize w9.setCell ⟨xg, k * 4 + 2, none⟩ (.slice te.po te.pl te.pc) = w11 at *
        refine (unhide HCE _ (Below.refl _ _)).mono ?_
        rintro _ w12 ⟨rfl, b12⟩
        go_wp2_with fail
        refine (unhide HCR _ b12).mono ?_
        rintro _ w13 ⟨rfl, b13⟩
        have hz2 : (z2 == z2) = true := by simp
        go_wp2
        go_ret
        exact ⟨rfl, b0a.trans ((b12.trans (b13.mono b12.size)).mono b0a.size)⟩
      · obtain ⟨b5a, z2, CE2, CR2⟩ := both_turned (w5 := w5) (k := k) (c := 3) (cap := xc) (x' := ⟨gx.t, gx.i, gx.po, gx.pl, gx.pc, te.ao, te.al, te.ac⟩) (vs := [.slice te.ao te.al te.ac]) (unhide Hrow9) hkn b59 (Nat.le_trans b58.size hBg) hgl (by simp) (fun j hj => by
          rw [unhide HGc]
          match j, hj with
          | 0, hj | 1, hj | 2, hj | 3, hj => first | rfl | (simp at hj)
          | _ + 4, _ => rfl) (fun j hj => by
          match j, hj with
          | 0, _ => rfl
          | 1, hj => first | rfl | (simp at hj)
          | _ + 2, hj =>
            simp only [List.length_cons, List.length_nil] at hj
            omega) (unhide HGB) ⟨_, _, entB_a hGX (unhide HTB)⟩
        simp only [World.setCells] at b5a CE2 CR2
        have b0a := b05.trans (b5a.mono b05.size)
        have HCE := hide CE2
        have HCR := hide CR2
        clear CE2 CR2
        go_wp2_with fail
        generalize w9.setCell ⟨xg, k * 4 + 3, none⟩ (.slice te.ao te.al te.ac) = w11 at *
        refine (unhide HCE _ (Below.refl _ _)).mono ?_
        rintro _ w12 ⟨rfl, b12⟩
        go_wp2_with fail
        refine (unhide HCR _ b12).mono ?_
        rintro _ w13 ⟨rfl, b13⟩
        have hz2 : (z2 == z2) = true := by simp
        go_wp2
        go_ret
        exact ⟨rfl, b0a.trans ((b12.trans (b13.mono b12.size)).mono b0a.size)⟩
      · have Hown9' : Hid (w9.ownsRow w8.heap.size 29 4 (.slice (some ⟨xg, 0, none⟩) gs.length xc) gs.length (gs.map E4.cells).flatten) := hide (by simpa using unhide Hown9)
        go_wp2_with (at_builtin; refine wpList_append_own _ rfl _ _ 22 rfl w8.heap.size 29 i0 _ 4 80 Tryz.underlying22 hi hz0 hz1 hz2 rfl (by decide) _ _ _ rfl ((unhide Hown9').alloc _) ⟨w9.heap.size, 0, none⟩ 1 1 gx.cells rfl rfl ?dB ?eB ?fB ?gB ?hB ?_)
        case dB => exact newsE_row w9 gx _ rfl
        case eB => exact cellsE_one gx
        case fB => unfold maxLen; omega
        case gB => omega
        case hB => have := b89.size; simp; omega
        intro v10 w10 hown10 hg10 _
        have b9a := b89.trans ((below1 w9 (.cells #[.string gx.t, .string gx.i, .slice gx.po gx.pl gx.pc, .slice gx.ao gx.al gx.ac] 29)).mono b89.size)
        have b8b : Below w8.heap.size w8 w10 := b9a.grown hg10 b9a.size (fun k hk => ((unhide Hown9').lt k hk).1)
        have b5b := b58.trans (b8b.mono b58.size)
        have b0a := b05.trans (b5b.mono b05.size)
        have ho : w10.ownsRow w8.heap.size 29 4 v10 ((gs ++ [gx]).map E4.cells).length ((gs ++ [gx]).map E4.cells).flatten := by simpa using hown10
        obtain ⟨yo, yc, e10, hrow10, _, _⟩ := rowG_own (lenE _) ho
        rw [List.length_map] at e10
        subst e10
        obtain ⟨z2, CE2, CR2⟩ := both_check (gs ++ [gx]) yo yc w10 (by simp only [List.length_append, List.length_cons, List.length_nil]; omega) hrow10 (fun e he => by
          rcases List.mem_append.1 he with he | he
          · obtain ⟨us, ats, h⟩ := unhide HGB e he
            exact ⟨us, ats, h.below b5b⟩
          · rw [List.mem_singleton.1 he]
            exact ⟨_, _, hGX.below b5b⟩)
        have hlen : (gs ++ [gx]).length = gs.length + 1 := by simp
        rw [hlen] at CE2 CR2
        have HCE := hide CE2
        have HCR := hide CR2
        clear hlen CE2 CR2 ho hown10 hg10 hrow10 a0 a1 a2 a3 d0 d1 d2 d3
        go_wp2_with fail
        refine (unhide HCE _ (Below.refl _ _)).mono ?_
        rintro _ w12 ⟨rfl, b12⟩
        go_wp2_with fail
        refine (unhide HCR _ b12).mono ?_
        rintro _ w13 ⟨rfl, b13⟩
        have hz2 : (z2 == z2) = true := by simp
        go_wp2
        go_ret
        exact ⟨rfl, b0a.trans ((b12.trans (b13.mono b12.size)).mono b0a.size)⟩
end Go.Proofs.YtnbbimcooilmdaaGreat
