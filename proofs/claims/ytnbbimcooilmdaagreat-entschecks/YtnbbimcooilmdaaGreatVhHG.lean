/-
  A set that was made of plain values such as may be may be.
  What Plain makes is a value such as may be.
  value.Check and chancelref3.Check of any value; what Good makes, and that it may be.
-/
import Derived.Test.YtnbbimcooilmdaaGreatVdFS
import Derived.Test.YtnbbimcooilmdaaGreatVeAC
import Derived.Test.YtnbbimcooilmdaaGreatR7IM
import Derived.Test.YtnbbimcooilmdaaGreatVhD
import Derived.Test.YtnbbimcooilmdaaGreatVfBG
namespace Go.Proofs.YtnbbimcooilmdaaGreat
open Go.RowKit Go.Sort

theorem toP_ofP (p : PV) : toP (ofP p) = p := by cases p <;> rfl

theorem mayB_same (p : PV) (k0 : Int) (h : (p.kind : Int) = k0) : mayB (ofP p).k k0 = true := by
  rw [ofP_k, ← h]
  cases p <;> simp [mayB, PV.kind]

theorem chkFrom_ok (k0 : Int) : ∀ (S : List PV) (prev : Option PV), (∀ p ∈ S, (p.kind : Int) = k0 ∧ chkP p = 0) → Rising lessP S → (∀ p q, prev = some p → S.head? = some q → lessP p q = true) → chkFrom k0 (prev.map ofP) (S.map ofP) = 0
  | [], prev, _, _, _ => by cases prev <;> rfl
  | q :: S, prev, h1, h2, h3 => by
    have hq := h1 q (by simp)
    have h2' := List.pairwise_cons.1 h2
    rw [List.map_cons, chkFrom_cons, if_neg (by rw [mayB_same q k0 hq.1]; decide), chkFlat_ofP, if_neg (fun hn => hn hq.2), if_neg]
    · refine chkFrom_ok k0 S (some q) (fun p hp => h1 p (List.mem_cons_of_mem _ hp)) h2'.2 (fun p r hp hr => ?_)
      cases hp
      exact h2'.1 r (List.mem_of_mem_head? hr)
    · cases prev with
      | none => exact fun h => by cases h
      | some p =>
        have := h3 p q rfl rfl
        simp [prevOk, lessR, toP_ofP, this]

theorem chkEls_ok (S : List PV) (h8 : S.length ≤ 8) (hk : ∀ p ∈ S, ∀ q ∈ S, p.kind = q.kind) (hc : ∀ p ∈ S, chkP p = 0) (hr : Rising lessP S) : chkEls (S.map ofP) = 0 := by
  unfold chkEls
  rw [List.length_map, if_neg (by omega)]
  cases S with
  | nil => rfl
  | cons q S =>
    show chkFrom (ofP q).k none ((q :: S).map ofP) = 0
    refine chkFrom_ok _ (q :: S) none (fun p hp => ⟨?_, hc p hp⟩) hr (fun p _ h => by cases h)
    rw [ofP_k, hk p hp q (by simp)]

theorem more_set (ao : Option Addr) (n c : Nat) : moreB (setR ao n c) = false := by
  unfold moreB
  rw [decide_eq_false_iff_not, Classical.not_not]
  exact ⟨rfl, rfl, rfl, rfl, rfl, rfl⟩

theorem small_ofP (p : PV) (h : smallP p) : smallR (ofP p) := by
  have h0 : (ba []).size ≤ 1099511627776 := by decide
  cases p with
  | bool b => exact ⟨h0, h0, h0⟩
  | long n => exact ⟨h0, h0, h0⟩
  | str s => exact ⟨by rw [Lib.size_eq]; exact h, h0, h0⟩
  | uid t i => exact ⟨h0, by rw [Lib.size_eq]; exact h.1, by rw [Lib.size_eq]; exact h.2⟩

/-- Check of a set that was made. -/
theorem vcheck_made (S : List PV) (ao : Option Addr) (c : Nat) (w : World) (h8 : S.length ≤ 8) (hk : ∀ p ∈ S, ∀ q ∈ S, p.kind = q.kind) (hc : ∀ p ∈ S, chkP p = 0) (hs : ∀ p ∈ S, smallP p) (hr : Rising lessP S) (hrow : RowV w ao (S.map ofP)) :
    Calls Tryz.prog 57 #[(setR ao S.length c).val] w fun e w' => e = .returned (.int .i64 0) ∧ Below w.heap.size w w' := by
  have h := vcheck_set (setR ao S.length c) (S.map ofP) w rfl (by rw [List.length_map]; rfl) (by rw [List.length_map]; omega) hrow (fun e he => by
    obtain ⟨p, hp, rfl⟩ := List.mem_map.1 he
    exact small_ofP p (hs p hp))
  rw [chkSet, more_set, chkEls_ok S h8 hk hc hr] at h
  exact h
end Go.Proofs.YtnbbimcooilmdaaGreat

namespace Go.Proofs.YtnbbimcooilmdaaGreat
open Go.RowKit Go.Sort

theorem chkT_idt (xs : List Int) : chkT (idt xs) = 0 := by
  have h1 : okL (idt xs) = true := okL_ofL _ (picks_ok _)
  have h2 : runes (idt xs) = picks (xs.take 30) := runes_ofL _ (picks_ok _)
  have h3 : (picks (xs.take 30)).length ≤ 30 := by simp [picks]; omega
  unfold chkT
  rw [if_pos h1, h2, if_neg (by omega)]

theorem name_ty (m : Nat) (h : m < 5) : nameB (tyL.getD m []) = true := by
  match m, h with
  | 0, _ | 1, _ | 2, _ | 3, _ | 4, _ => decide

theorem chkP_plainV (k : Nat) (n : Int) (xs : List Int) : chkP (plainV k n xs) = 0 := by
  unfold plainV
  split
  · rfl
  · split
    · rfl
    · split
      · exact chkT_idt xs
      · show chkU _ _ = 0
        unfold chkU
        rw [if_pos (name_ty (tyI n) (tmod5 n))]
        exact chkT_idt xs

theorem small_plainV (k : Nat) (n : Int) (xs : List Int) : smallP (plainV k n xs) := by
  have h := txt_len (xs.take 30)
  unfold plainV
  split
  · trivial
  · split
    · trivial
    · split
      · show (idt xs).length ≤ 1099511627776
        unfold idt
        omega
      · refine ⟨?_, ?_⟩
        · have h5 := tmod5 n
          show (tyL.getD (tyI n) []).length ≤ 1099511627776
          unfold tyI
          generalize (n.tmod 5).natAbs = m at *
          match m, h5 with
          | 0, _ | 1, _ | 2, _ | 3, _ | 4, _ => decide
        · show (idt xs).length ≤ 1099511627776
          unfold idt
          omega
end Go.Proofs.YtnbbimcooilmdaaGreat

namespace Go.Proofs.YtnbbimcooilmdaaGreat
open Go.RowKit Go.Sort

/-- What Check tells of a value with its list. -/
def chkAny (r : R7) (es : List R7) : Int := if r.k = 5 then chkSet r es else chkFlat r

theorem vcheck_any (r : R7) (es : List R7) (w : World) (hn : r.ll = es.length) (hl : es.length ≤ 1048576) (hr : RowV w r.lo es) (hs : smallR' r) (hsm : ∀ e ∈ es, smallR' e) :
    Calls Tryz.prog 57 #[r.val] w fun e w' => e = .returned (.int .i64 (chkAny r es)) ∧ Below w.heap.size w w' := by
  unfold chkAny
  by_cases h5 : r.k = 5
  · rw [if_pos h5]
    exact vcheck_set r es w h5 hn hl hr (fun e he => ⟨by have := (hsm e he).1; omega, by have := (hsm e he).2.1; omega, by have := (hsm e he).2.2; omega⟩)
  · rw [if_neg h5]
    exact vcheck_flat r w h5 (by have := hs.1; omega) (by have := hs.2.1; omega) (by have := hs.2.2; omega)

theorem r3check_any (r : R7) (es : List R7) (w : World) (hn : r.ll = es.length) (hl : es.length ≤ 1048576) (hr : RowV w r.lo es) (hs : smallR' r) (hsm : ∀ e ∈ es, smallR' e) :
    Calls Tryz.prog 47 #[r.val] w fun e w' => e = .returned (.int .i64 (chkAny r es)) ∧ Below w.heap.size w w' := by
  unfold chkAny
  by_cases h5 : r.k = 5
  · rw [if_pos h5]
    exact r3check_set r es w h5 hn hl hr hsm
  · rw [if_neg h5]
    exact r3check_flat r w h5 hs.1 hs.2.1 hs.2.2

theorem small'_plainV (k : Nat) (n : Int) (xs : List Int) : smallR' (ofP (plainV k n xs)) := by
  have h := txt_len (xs.take 30)
  have hs : (ba (idt xs)).size ≤ 1048576 := by rw [Lib.size_eq]; show (idt xs).length ≤ _; unfold idt; omega
  have h0 : (ba []).size ≤ 1048576 := by decide
  unfold plainV
  split
  · exact ⟨h0, h0, h0⟩
  · split
    · exact ⟨h0, h0, h0⟩
    · split
      · exact ⟨hs, h0, h0⟩
      · refine ⟨h0, ?_, hs⟩
        have h5 := tmod5 n
        show (ba (tyL.getD (tyI n) [])).size ≤ 1048576
        unfold tyI
        generalize (n.tmod 5).natAbs = m at *
        match m, h5 with
        | 0, _ | 1, _ | 2, _ | 3, _ | 4, _ => decide

/-- What Good makes: a value with its list, such as may be. -/
structure Made2 (W : World) (R : R7) (L : List R7) : Prop where
  len : R.ll = L.length
  few : L.length ≤ 8
  row : RowV W R.lo L
  small : smallR' R
  smalls : ∀ e ∈ L, smallR' e
  start : ∀ ad, R.lo = some ad → ad.off = 0
theorem Made2.below {W W' : World} {R : R7} {L : List R7} (h : Made2 W R L) (hb : Below W.heap.size W W') : Made2 W' R L := ⟨h.len, h.few, h.row.below hb, h.small, h.smalls, h.start⟩

theorem good3_made (r : RawE) (lo : Option Addr) (es : List RawE) (lc : Nat) (w : World) (hr : r.Ok w) (hl : es.length ≤ 9223372036854775807) (hs : RowRaw w lo es) :
    Calls Tryz.prog 28 #[.agg #[.int .i64 r.k, .int .i64 r.n, .slice r.so r.xs.length r.sc, .slice lo es.length lc]] w fun e w' => Below w.heap.size w w' ∧ ∃ R L, e = .returned R.val ∧ Made2 w' R L ∧
      ∀ W, Below w'.heap.size w' W → Calls Tryz.prog 57 #[R.val] W fun e w'' => e = .returned (.int .i64 0) ∧ Below W.heap.size W w'' := by
  refine (good3_any r lo es lc w hr hl hs).mono ?_
  rintro e w' ⟨hb, R, he, hg⟩
  refine ⟨hb, R, ?_⟩
  unfold goodG at hg
  split at hg
  · obtain ⟨ao, c, rfl, hrow, ho⟩ := hg
    have hmem : ∀ p ∈ setOf lessP (goodL r.k es), ∃ n xs, p = plainV (goodK r.k) n xs := fun p hp => by
      obtain ⟨a, _, rfl⟩ := List.mem_map.1 ((mem_setOf sto_lessP _ p).1 hp)
      exact ⟨_, _, rfl⟩
    have h8 : (setOf lessP (goodL r.k es)).length ≤ 8 := by
      have := len_setOf_le (goodL r.k es)
      rw [goodL_len] at this
      omega
    have h0 : (ba []).size ≤ 1048576 := by decide
    refine ⟨(setOf lessP (goodL r.k es)).map ofP, he, ⟨by rw [List.length_map]; rfl, by rw [List.length_map]; exact h8, hrow, ⟨h0, h0, h0⟩, fun e' he' => ?_, ho⟩, fun W hW => ?_⟩
    · obtain ⟨p, hp, rfl⟩ := List.mem_map.1 he'
      obtain ⟨n, xs, rfl⟩ := hmem p hp
      exact small'_plainV _ _ _
    · exact vcheck_made _ ao c W h8 (fun p hp q hq => goodL_kind r.k es p ((mem_setOf sto_lessP _ p).1 hp) q ((mem_setOf sto_lessP _ q).1 hq)) (fun p hp => by obtain ⟨n, xs, rfl⟩ := hmem p hp; exact chkP_plainV _ _ _) (fun p hp => by obtain ⟨n, xs, rfl⟩ := hmem p hp; exact small_plainV _ _ _) (rising_setOf sto_lessP _) (hrow.below hW)
  · have hR : R = ofP (plainV (1 + r.k % 5).toNat r.n r.xs) := hg
    subst hR
    refine ⟨[], he, ⟨?_, by simp, fun j hj => by simp at hj, small'_plainV _ _ _, by simp, fun ad h => ?_⟩, fun W _ => ?_⟩
    · unfold plainV
      split
      · rfl
      · split
        · rfl
        · split <;> rfl
    · exfalso
      revert h
      unfold plainV
      split
      · simp [ofP]
      · split
        · simp [ofP]
        · split <;> simp [ofP]
    · have := vcheck_ofP (plainV (1 + r.k % 5).toNat r.n r.xs) W (small_plainV _ _ _)
      rwa [chkP_plainV] at this
end Go.Proofs.YtnbbimcooilmdaaGreat
