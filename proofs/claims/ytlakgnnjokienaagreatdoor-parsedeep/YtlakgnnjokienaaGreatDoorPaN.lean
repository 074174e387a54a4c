/-
  parse's reader: lists of trees.
-/
import Derived.Test.YtlakgnnjokienaaGreatDoorPaH
import Derived.Test.YtlakgnnjokienaaGreatDoorPaO
import Derived.Maps.AppendAt
namespace Go.Proofs.YtlakgnnjokienaaGreatDoor
open Go.RowKit

def cellsE (l : List R7) : List Value := l.flatMap R7.cells
theorem cellsE_snoc (l : List R7) (r : R7) : cellsE (l ++ [r]) = cellsE l ++ r.cells := by simp [cellsE]
theorem cellsE_at : ∀ (l : List R7) (j : Nat) (h : j < l.length) (c : Nat), c < 7 → (cellsE l)[j * 7 + c]? = (l[j].cells)[c]?
  | [], j, h, _, _ => by simp at h
  | t :: r, 0, _, c, hc => by
    show (t.cells ++ cellsE r)[0 * 7 + c]? = _
    rw [Nat.zero_mul, Nat.zero_add, List.getElem?_append_left (by exact hc)]
    rfl
  | t :: r, j + 1, h, c, hc => by
    have := cellsE_at r j (by simpa using h) c hc
    show (t.cells ++ cellsE r)[(j + 1) * 7 + c]? = (r[j]'(by simpa using h)).cells[c]?
    have hl : t.cells.length = 7 := rfl
    rw [← this, List.getElem?_append_right (by rw [hl]; omega), hl]
    congr 1
    omega
theorem cellE_one (r : R7) : ∀ u ∈ r.cells, u.oneCell' = true := by
  intro u hu
  simp [R7.cells] at hu
  rcases hu with rfl | rfl | rfl | rfl | rfl | rfl | rfl <;> rfl
theorem newsE_row (w : World) (r : R7) (n : Nat) (hn : n = w.heap.size) : ∀ j u, r.cells[j]? = some u → (w.alloc (.cells #[.int .i64 r.k, .bool r.b, .int .i64 r.n, .string r.s, .string r.t, .string r.i, .slice r.lo r.ll r.lc] 28)).cell? ((⟨n, 0, none⟩ : Addr).add j) = some u := by
  intro j u hj
  rw [Addr.add_lit, Nat.zero_add, World.cell?_alloc_at _ _ _ _ hn]
  simpa [R7.cells] using hj
theorem infoExpr : (Tryz.prog.info? 28).map (fun i => (i.zero, i.size, i.bytes)) = some (some (.agg #[.int .i64 0, .bool false, .int .i64 0, .string ⟨#[]⟩, .string ⟨#[]⟩, .string ⟨#[]⟩, .slice none 0 0]), 7, 96) := by kernel_rfl

/-- Cells and trees, one for one. -/
inductive AllE (w : World) (P : Nat → Prop) : List R7 → List Ex → Prop
  | nil : AllE w P [] []
  | snoc {rs : List R7} {xs : List Ex} {r : R7} {x : Ex} : AllE w P rs xs → IsE w P r x → AllE w P (rs ++ [r]) (xs ++ [x])
theorem AllE.turn {w w' : World} {P P' : Nat → Prop} (hs : w.heap.size ≤ w'.heap.size) (hb : ∀ b, P b → b < w.heap.size → w'.heap[b]? = w.heap[b]? ∧ P' b) {rs : List R7} {xs : List Ex} (h : AllE w P rs xs) : AllE w' P' rs xs := by
  induction h with
  | nil => exact .nil
  | snoc _ hx ih => exact .snoc ih (IsE.turn hs hb _ _ hx)
theorem AllE.len {w : World} {P : Nat → Prop} {rs : List R7} {xs : List Ex} (h : AllE w P rs xs) : rs.length = xs.length := by
  induction h with
  | nil => rfl
  | snoc _ _ ih => simp [ih]
theorem isEs_snoc {w : World} {P : Nat → Prop} {lo : Option Addr} : ∀ (xs : List Ex) (j : Nat) (x : Ex), IsEs w P lo j xs → (∃ r b off, lo = some ⟨b, off, none⟩ ∧ P b ∧ b < w.heap.size ∧ At7 w b (off + (j + xs.length) * 7) r ∧ IsE w P r x) → IsEs w P lo j (xs ++ [x])
  | [], j, x, _, h => by
    rw [List.nil_append]
    unfold IsEs
    refine ⟨by simpa using h, ?_⟩
    unfold IsEs
    trivial
  | y :: ys, j, x, h1, h2 => by
    rw [List.cons_append]
    unfold IsEs at h1 ⊢
    refine ⟨h1.1, isEs_snoc ys (j + 1) x h1.2 ?_⟩
    rw [show j + 1 + ys.length = j + (y :: ys).length by simp; omega]
    exact h2
/-- A row of trees in a block. -/
theorem AllE.row {w : World} {P : Nat → Prop} {g : Nat} {rs : List R7} {xs : List Ex} (h : AllE w P rs xs) (hP : P g) (hg : g < w.heap.size) : (∀ j (hj : j < rs.length), At7 w g (j * 7) rs[j]) → IsEs w P (some ⟨g, 0, none⟩) 0 xs := by
  induction h with
  | nil => intro _; unfold IsEs; trivial
  | @snoc rs xs r x h hx ih =>
    intro ha
    refine isEs_snoc xs 0 x (ih fun j hj => ?_) ⟨r, g, 0, rfl, hP, hg, ?_, hx⟩
    · have := ha j (by simp; omega)
      rwa [List.getElem_append_left hj] at this
    · have := ha rs.length (by simp)
      rw [List.getElem_append_right (Nat.le_refl _)] at this
      simp only [Nat.sub_self, List.getElem_cons_zero] at this
      rw [← h.len]
      simpa using this
theorem ownsE_at {w : World} {B : Nat} {v : Value} {l : List R7} (h : w.ownsRow B 28 7 v l.length (cellsE l)) (hp : 0 < l.length) : ∃ g cap, v = .slice (some ⟨g, 0, none⟩) l.length cap ∧ B ≤ g ∧ g < w.heap.size ∧ ∀ j (hj : j < l.length), At7 w g (j * 7) l[j] := by
  rcases h.2 with ⟨h0, hz⟩ | ⟨g, cap, cur, hv, hbg, hg, hnc, _, _, htake⟩
  · omega
  · refine ⟨g, cap, hv, hbg, (Array.getElem?_eq_some_iff.1 hg).1, fun j hj => ?_⟩
    have key : ∀ c u, c < 7 → (l[j].cells)[c]? = some u → w.cell? ⟨g, j * 7 + c, none⟩ = some u := fun c u hc hu => by
      have := cellsE_at l j hj c hc
      rw [hu, ← htake, List.getElem?_take] at this
      rw [Lib.cell_of_heap hg]
      split at this
      · simpa using this
      · cases this
    exact ⟨key 0 _ (by decide) rfl, key 1 _ (by decide) rfl, key 2 _ (by decide) rfl, key 3 _ (by decide) rfl, key 4 _ (by decide) rfl, key 5 _ (by decide) rfl, key 6 _ (by decide) rfl⟩
theorem own_one (w : World) (r : R7) : (w.alloc (.cells #[.int .i64 r.k, .bool r.b, .int .i64 r.n, .string r.s, .string r.t, .string r.i, .slice r.lo r.ll r.lc] 28)).ownsRow w.heap.size 28 7 (.slice (some ⟨w.heap.size, 0, none⟩) 1 1) [r].length (cellsE [r]) :=
  ⟨rfl, .inr ⟨w.heap.size, 1, _, rfl, Nat.le_refl _, alloc_heap _ _, Nat.le_refl _, by unfold maxLen; omega, rfl, by simp [cellsE, R7.cells]⟩⟩

def outL (o : Rs (List Ex)) : St := o.map (·.2)
def FinL (E : Pr Ex) (o F : Rs (List Ex)) : Prop :=
  match o with
  | none => F = none
  | some (l, ts) => ∃ m, ts.length < m ∧ listL E m l ts = F
def lst1 (o : Rs Ex) : Rs (List Ex) := o.map fun p => ([p.1], p.2)
def lstN (l : List Ex) (o : Rs Ex) : Rs (List Ex) := o.map fun p => (l ++ [p.1], p.2)
theorem outL_lst1 (o : Rs Ex) : outL (lst1 o) = outS o := by cases o <;> rfl
theorem outL_lstN (l : List Ex) (o : Rs Ex) : outL (lstN l o) = outS o := by cases o <;> rfl
theorem finL_start (E : Pr Ex) (st : St) : FinL E (lst1 (st.bind E)) (st.bind (listOfP E)) := by
  cases st with
  | none => rfl
  | some ts =>
    show FinL E (lst1 (E ts)) (listOfP E ts)
    unfold listOfP
    cases E ts with
    | none => rfl
    | some p => exact ⟨p.2.length + 1, by omega, rfl⟩
theorem finL_stop {E : Pr Ex} {o F : Rs (List Ex)} (h : FinL E o F) (hp : ∀ x ts, o = some (x, ts) → sg [44] ts = false) : F = o := by
  cases o with
  | none => exact h
  | some p =>
    obtain ⟨x, ts⟩ := p
    obtain ⟨m, hm, e⟩ := h
    cases m with
    | zero => omega
    | succ m => rw [← e, listL, hp x ts rfl]; rfl
theorem finL_next {E : Pr Ex} {l : List Ex} {ts : List Tok} {F : Rs (List Ex)} (hS : Short E) (h : FinL E (some (l, ts)) F) (hp : sg [44] ts = true) (hl : 0 < ts.length) : FinL E (lstN l (E ts.tail)) F := by
  obtain ⟨m, hm, e⟩ := h
  cases m with
  | zero => omega
  | succ m =>
    rw [listL, hp, if_pos rfl] at e
    cases hE : E ts.tail with
    | none => rw [hE] at e; exact e.symm
    | some p =>
      rw [hE] at e
      refine ⟨m, ?_, e⟩
      have := hS _ _ _ hE
      simp at this
      omega
theorem outL_some {o : Rs (List Ex)} {ts : List Tok} (h : outL o = some ts) : ∃ x, o = some (x, ts) := by
  cases o with
  | none => cases h
  | some p => exact ⟨p.1, by cases h; rfl⟩

theorem owns_keep {rb : Nat} {w w' : World} (hk : Keep rb w w') {B : Nat} {e : TypeId} {n : Nat} {v : Value} {l : Nat} {xs : List Value} (hB : rb < B) (h : w.ownsRow B e n v l xs) : w'.ownsRow B e n v l xs := by
  refine ⟨h.1, ?_⟩
  rcases h.2 with h0 | ⟨g, cap, cur, hv, hbg, hg, rest⟩
  · exact .inl h0
  · exact .inr ⟨g, cap, cur, hv, hbg, hk.kept (by omega) hg, rest⟩
theorem Keep.grown {rb : Nat} {a w w' : World} {row : Option Nat} (h : Keep rb a w) (hg : w.grownBy w' row) (hr : ∀ k, row = some k → a.heap.size ≤ k) : Keep rb a w' :=
  ⟨hg.os.trans h.os, hg.tape.trans h.tape, hg.output.trans h.output, Nat.le_trans h.size hg.size, fun k hk hk2 => by
    rw [hg.block k (by have := h.size; omega) (fun e => by have := hr k e.symm; omega)]
    exact h.block k hk hk2⟩
theorem rd_bound {w : World} {rb : Nat} {st : St} (h : RdAt w rb st) : stLen st ≤ 1048576 := by
  cases st with
  | none => exact Nat.zero_le _
  | some ts => obtain ⟨_, _, _, _, h3, _⟩ := h.1; exact h3

set_option maxHeartbeats 4000000 in
set_option maxRecDepth 1000000 in
theorem listOf_does (E : Pr Ex) (n : Nat) (hE : Short E) (HX : Does 14 E n) (st : St) (w : World) (rb : Nat) (hn : stLen st < n) (h : RdAt w rb st) :
    Calls Tryz.prog 101 #[rp rb, .func (.func 14) #[] #[]] w fun e w' => ∃ lo k c, e = .returned (.slice lo k c) ∧ Keep rb w w' ∧ RdAt w' rb (outL (st.bind (listOfP E))) ∧ ∀ l ts, st.bind (listOfP E) = some (l, ts) → k = l.length ∧ IsEs w' (fun b => w.heap.size ≤ b) lo 0 l := by
  have hlt := h.lt
  have U0 := HX st w rb hn h
  obtain ⟨i0, hi, hz0, hz1, hz2⟩ := info_parts infoExpr
  have hfin := hide (finL_start E st)
  have hle := short_len hE st
  generalize st.bind E = o1 at *
  generalize st.bind (listOfP E) = F at *
  unfold rp at U0 ⊢
  go_enter Tryz.func101, Tryz.ntmps101
  go_wp2_with fail
  refine U0.mono ?_
  rintro e w2 ⟨r1, rfl, k2, r2, hE1⟩
  have HE1 := hide hE1
  clear hE1
  unfold R7.val
  have hw2 := k2.size
  go_wp2_with fail
  have hN := rd_bound h
  go_loopw [5] (fun lv wr => ∃ (o : Rs (List Ex)) (rs : List R7), Keep rb w wr ∧ RdAt wr rb (outL o) ∧ wr.ownsRow w2.heap.size 28 7 lv rs.length (cellsE rs) ∧ 0 < rs.length ∧ rs.length + stLen (outL o) ≤ stLen st + 1 ∧ stLen (outL o) < n ∧
      Hid (∀ l ts, o = some (l, ts) → AllE wr (fun b => w.heap.size ≤ b ∧ some b ≠ lv.ownBlock) rs l) ∧ Hid (FinL E o F)) (fun _ wr => leftN wr rb)
  case atStart =>
    have n3 := new1 w2 (.cells #[.int .i64 r1.k, .bool r1.b, .int .i64 r1.n, .string r1.s, .string r1.t, .string r1.i, .slice r1.lo r1.ll r1.lc] 28)
    refine ⟨lst1 o1, [r1], k2.trans (.of_below n3), by rw [outL_lst1]; exact r2.below n3, own_one w2 r1, by simp, by rw [outL_lst1]; simp; omega, by rw [outL_lst1]; omega, hide ?_, hfin⟩
    intro l ts hx
    cases o1 with
    | none => cases hx
    | some p =>
      cases hx
      refine AllE.snoc (rs := []) (xs := []) .nil (IsE.turn n3.size (fun b hb hb2 => ⟨n3.block b hb2, hb, ?_⟩) r1 p.1 (unhide HE1 p.1 p.2 rfl))
      intro e
      have : b = w2.heap.size := Option.some.inj e
      omega
  case round =>
    obtain ⟨o, rs, hK, hR, hown, hpos, hcnt, hlen, HA, HF⟩ := hrel
    have S : Calls Tryz.prog 35 #[.pointer (some ⟨rb, 0, none⟩), .string ⟨#[44]⟩] wr fun e w' => e = .returned (.bool (isTS 4 [44] (outL o))) ∧ Keep rb wr w' ∧ RdAt w' rb (aft 4 [44] (outL o)) := sign_any (outL o) wr rb ⟨#[44]⟩ hR
    obtain ⟨g, cap, rfl, hBg, hg, hrow⟩ := ownsE_at hown hpos
    have hrb2 : rb < w2.heap.size := by omega
    cases c1 : isTS 4 [44] (outL o) with
    | true =>
      obtain ⟨ts, ho, hl, g1, g2⟩ := isTS_sg (by decide) c1
      obtain ⟨l, rfl⟩ := outL_some ho
      have HF2 := hide (finL_next hE (unhide HF) g1 hl)
      have hlen1 : stLen (some ts.tail) < n := by have : stLen (some ts) < n := hlen; simp [stLen] at this ⊢; omega
      have hlen2 : stLen (outS (E ts.tail)) < ts.length := by
        have h2 : stLen (outS (E ts.tail)) ≤ stLen (some ts.tail) := short_len hE (some ts.tail)
        have h3 : stLen (some ts.tail) = ts.length - 1 := by simp [stLen]
        omega
      have hleft : leftN wr rb = ts.length := hR.left
      have hcnt' : rs.length + ts.length ≤ stLen st + 1 := hcnt
      have hlen' : ts.length < n := hlen
      have U : ∀ w', RdAt w' rb (some ts.tail) → Calls Tryz.prog 14 #[.pointer (some ⟨rb, 0, none⟩)] w' (Res rb w' (E ts.tail)) := fun w' h' => HX (some ts.tail) w' rb hlen1 h'
      generalize E ts.tail = o2 at *
      rw [c1, g2] at S
      have HA1 := hide (unhide HA l ts rfl)
      have HLf := hide hleft
      clear c1 g1 g2 HF HA hlen1 hleft hlen ho hrow hcnt
      generalize (some ts.tail : St) = s1 at *
      go_wp2_with fail
      refine S.mono ?_
      rintro e w5 ⟨rfl, k5, r5⟩
      clear S
      go_wp2_with fail
      refine (U _ r5).mono ?_
      rintro e w6 ⟨r', rfl, k6, r6, hE6⟩
      have HE6 := hide hE6
      clear hE6 U
      unfold R7.val
      have k56 := k5.trans k6
      have hown6 := owns_keep k56 hrb2 hown
      have K6 := hK.trans k56
      have n7 := new1 w6 (.cells #[.int .i64 r'.k, .bool r'.b, .int .i64 r'.n, .string r'.s, .string r'.t, .string r'.i, .slice r'.lo r'.ll r'.lc] 28)
      have hs5 := k5.size
      have hs6 := k6.size
      go_wp2_with (at_builtin; refine wpList_append_own_at _ rfl _ _ 26 rfl w2.heap.size 28 i0 _ 7 96 Tryz.underlying26 hi hz0 hz1 hz2 rfl (by decide) _ _ _ rfl (owns_below n7 hown6) ⟨w6.heap.size, 0, none⟩ 1 1 r'.cells rfl rfl ?p1 ?p2 ?p3 ?p4 ?p5 ?_)
      case p1 => exact newsE_row w6 r' _ rfl
      case p2 => exact cellE_one r'
      case p3 => unfold maxLen; omega
      case p4 => omega
      case p5 => have := n7.size; omega
      intro v8 w8 hown8 hgrow _ hat
      have hown8' : w8.ownsRow w2.heap.size 28 7 v8 (rs ++ [r']).length (cellsE (rs ++ [r'])) := by rw [cellsE_snoc, List.length_append]; exact hown8
      have K8 : Keep rb w w8 := (K6.trans (.of_below n7)).grown hgrow (fun k hk => by have : k = g := (Option.some.inj hk).symm; omega)
      have R8 : RdAt w8 rb (outL (lstN l o2)) := by
        rw [outL_lstN]
        refine (r6.below n7).same fun k hk => hgrow.block k ?_ ?_
        · have := n7.size; omega
        · intro e
          have : k = g := Option.some.inj e
          omega
      have hz7 : (w6.alloc (.cells #[.int .i64 r'.k, .bool r'.b, .int .i64 r'.n, .string r'.s, .string r'.t, .string r'.i, .slice r'.lo r'.ll r'.lc] 28)).heap.size = w6.heap.size + 1 := by simp
      have hne : ∀ b, b < w6.heap.size → b ≠ g → some b ≠ v8.ownBlock := by
        intro b hb hbg e
        rcases hat with h1 | h1
        · rw [h1] at e
          exact hbg (Option.some.inj e)
        · rw [h1] at e
          have hb3 := Option.some.inj e
          omega
      have hsame : ∀ b, b < w6.heap.size → b ≠ g → w8.heap[b]? = w6.heap[b]? := by
        intro b hb hbg
        rw [hgrow.block b (by rw [hz7]; omega) (fun e => hbg (Option.some.inj e))]
        exact n7.block b hb
      have hA8 : ∀ l' ts', lstN l o2 = some (l', ts') → AllE w8 (fun b => w.heap.size ≤ b ∧ some b ≠ v8.ownBlock) (rs ++ [r']) l' := by
        intro l' ts' hx
        have hs8 := hgrow.size
        rw [hz7] at hs8
        have hsw := hK.size
        cases o2 with
        | none => cases hx
        | some p =>
          cases hx
          refine .snoc ?_ ?_
          · refine AllE.turn (by omega) (fun b hb hb2 => ?_) (unhide HA1)
            have hbg : b ≠ g := fun e => hb.2 (by rw [e]; rfl)
            exact ⟨(hsame b (by omega) hbg).trans (k56.block b hb2 (by omega)), hb.1, hne b (by omega) hbg⟩
          · refine IsE.turn (by omega) (fun b hb hb2 => ?_) r' p.1 (unhide HE6 p.1 p.2 rfl)
            have hbg : b ≠ g := by omega
            exact ⟨hsame b hb2 hbg, by omega, hne b hb2 hbg⟩
      have HA8 := hide hA8
      have hl8 := R8.left
      rw [outL_lstN] at hl8
      clear hA8 hsame hne hown8 hgrow hat hown6
      obtain ⟨g8, cap8, rfl, _⟩ := ownsE_at hown8' (by simp)
      go_wp2
      go_roundw
      case rel =>
        refine ⟨lstN l o2, rs ++ [r'], K8, R8, hown8', by simp, by rw [outL_lstN, List.length_append, List.length_singleton]; omega, by rw [outL_lstN]; omega, HA8, HF2⟩
      case measure =>
        have h3 := unhide HLf
        omega
    | false =>
      obtain ⟨g1, g2⟩ := isTS_no c1
      have e : F = o := finL_stop (unhide HF) (fun x ts hx => by subst hx; exact g2 ts rfl)
      rw [c1, g1] at S
      clear c1 g1 g2 HF
      go_wp2_with fail
      refine S.mono ?_
      rintro e w5 ⟨rfl, k5, r5⟩
      subst e
      go_wp2
      go_ret
      refine ⟨_, _, _, rfl, hK.trans k5, r5, fun l ts hx => ?_⟩
      have hA := unhide HA l ts hx
      have hA5 := AllE.turn (P' := fun b => w.heap.size ≤ b) k5.size (fun b hb hb2 => ⟨k5.block b hb2 (by have := hb.1; omega), hb.1⟩) hA
      have hs5 := k5.size
      refine ⟨hA.len, hA5.row (by omega) (by omega) fun j hj => (hrow j hj).same (k5.block g hg (by omega))⟩
end Go.Proofs.YtlakgnnjokienaaGreatDoor
