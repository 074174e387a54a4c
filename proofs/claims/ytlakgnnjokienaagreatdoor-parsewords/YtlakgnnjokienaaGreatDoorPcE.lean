/-
  parse.Expr: what it returns.
-/
import Derived.Test.YtlakgnnjokienaaGreatDoorPaS
import Derived.Test.YtlakgnnjokienaaGreatDoorPcD
namespace Go.Proofs.YtlakgnnjokienaaGreatDoor
open Go.RowKit Go.Sort

theorem cellsT_get : ∀ (ts : List Tok) (j : Nat) (h : j < ts.length) (c : Nat), c < 4 → (cellsT ts)[j * 4 + c]? = (ts[j].cells)[c]?
  | [], j, h, _, _ => by simp at h
  | t :: r, 0, _, c, hc => by
    show (t.cells ++ cellsT r)[0 * 4 + c]? = _
    rw [Nat.zero_mul, Nat.zero_add, List.getElem?_append_left (by exact hc)]
    rfl
  | t :: r, j + 1, h, c, hc => by
    have := cellsT_get r j (by simpa using h) c hc
    have hl : t.cells.length = 4 := rfl
    show (t.cells ++ cellsT r)[(j + 1) * 4 + c]? = (r[j]'(by simpa using h)).cells[c]?
    rw [← this, List.getElem?_append_right (by rw [hl]; omega), hl]
    congr 1
    omega
theorem blkTok {w : World} {B : Nat} {v : Value} {ts : List Tok} (h : w.ownsRow B 70 4 v ts.length (cellsT ts)) : ∃ ao cap, v = .slice ao ts.length cap ∧ ts.length ≤ cap ∧ RowK w w.heap.size ao ts := by
  rcases h.2 with ⟨h0, hz⟩ | ⟨g, cap, cur, hv, hbg, hg, hnc, _, _, htake⟩
  · refine ⟨none, 0, by rw [h0, hz], by omega, fun j hj => by omega⟩
  · refine ⟨_, cap, hv, hnc, fun j hj => ⟨g, 0, rfl, (Array.getElem?_eq_some_iff.1 hg).1, ?_⟩⟩
    have key : ∀ c u, c < 4 → (ts[j].cells)[c]? = some u → w.cell? ⟨g, 0 + j * 4 + c, none⟩ = some u := fun c u hc hu => by
      have := cellsT_get ts j hj c hc
      rw [hu, ← htake, List.getElem?_take] at this
      rw [Lib.cell_of_heap hg, Nat.zero_add]
      split at this
      · simpa using this
      · cases this
    exact ⟨key 0 _ (by decide) rfl, key 1 _ (by decide) rfl, key 2 _ (by decide) rfl, key 3 _ (by decide) rfl⟩

/-- The tables lie where the program's text lays them. -/
def Tabs (w : World) : Prop := Signs w ∧ 1 < w.heap.size ∧ ∃ t fr, w.heap[1]? = some (.cells cmpA t fr)
theorem Tabs.below {w w' : World} (h : Tabs w) (hb : Below w.heap.size w w') : Tabs w' := by
  obtain ⟨h1, h2, t, fr, h3⟩ := h
  exact ⟨h1.below hb, by have := hb.size; omega, t, fr, kept_of_below hb h3⟩
/-- A source whose tree, if it has one, is not too great. -/
def Mild (s : List UInt8) : Prop := (toks s).1.length ≤ 200 ∧ ∀ x r, exprN ((toks s).1.length + 1) (toks s).1 = some (x, r) → okB x = true ∧ depE x ≤ 1000000

theorem noE_is (w : World) (P : Nat → Prop) : IsE w P ⟨0, false, 0, ⟨#[]⟩, ⟨#[]⟩, ⟨#[]⟩, none, 0, 0⟩ noE := by
  unfold noE IsE IsEs
  simp [ba]

theorem below7 {B b : Nat} {a w : World} (h : Below B a w) (hb : B ≤ b) (v0 v1 v2 v3 v4 v5 v6 : Value) : Below B a (set7 w b v0 v1 v2 v3 v4 v5 v6) :=
  ((((((h.setCell (p := ⟨b, 0, none⟩) hb _).setCell (p := ⟨b, 1, none⟩) hb _).setCell (p := ⟨b, 2, none⟩) hb _).setCell (p := ⟨b, 3, none⟩) hb _).setCell (p := ⟨b, 4, none⟩) hb _).setCell (p := ⟨b, 5, none⟩) hb _).setCell (p := ⟨b, 6, none⟩) hb _
def finT (o : Rs Ex) : Ex × Int :=
  match o with
  | some (x, []) => if checkE x = 0 then (x, 0) else (noE, checkE x)
  | _ => (noE, 13)

set_option maxHeartbeats 4000000 in
set_option maxRecDepth 1000000 in
theorem readE_any (s : ByteArray) (w : World) (hT : Tabs w) (hs : s.size ≤ 1099511627776) (hm : Mild s.data.toList) :
    Calls Tryz.prog 13 #[.string s, .func (.func 14) #[] #[], .func (.func 15) #[] #[]] w fun e w' => ∃ r : R7, e = .returned (.tuple #[r.val, .int .i64 (parseE s.data.toList).2]) ∧ Below w.heap.size w w' ∧ IsE w' (fun b => w.heap.size ≤ b) r (parseE s.data.toList).1 := by
  have b0 := box2 w (.cells #[.int .i64 0, .bool false, .int .i64 0, .string ⟨#[]⟩, .string ⟨#[]⟩, .string ⟨#[]⟩, .slice none 0 0] 28) (.cells #[.int .i64 0, .bool false, .int .i64 0, .string ⟨#[]⟩, .string ⟨#[]⟩, .string ⟨#[]⟩, .slice none 0 0] 28)
  have hT0 := hT.below b0
  have TK := tokens_any s _ hT0.1 hs
  have z6 : ((w.alloc (.cells #[.int .i64 0, .bool false, .int .i64 0, .string ⟨#[]⟩, .string ⟨#[]⟩, .string ⟨#[]⟩, .slice none 0 0] 28)).alloc (.cells #[.int .i64 0, .bool false, .int .i64 0, .string ⟨#[]⟩, .string ⟨#[]⟩, .string ⟨#[]⟩, .slice none 0 0] 28)).heap[w.heap.size]? = some (.cells #[.int .i64 0, .bool false, .int .i64 0, .string ⟨#[]⟩, .string ⟨#[]⟩, .string ⟨#[]⟩, .slice none 0 0] 28 (0, 0)) := kept_of_below (new1 _ _) (alloc_heap _ _)
  have z8 : ((w.alloc (.cells #[.int .i64 0, .bool false, .int .i64 0, .string ⟨#[]⟩, .string ⟨#[]⟩, .string ⟨#[]⟩, .slice none 0 0] 28)).alloc (.cells #[.int .i64 0, .bool false, .int .i64 0, .string ⟨#[]⟩, .string ⟨#[]⟩, .string ⟨#[]⟩, .slice none 0 0] 28)).heap[w.heap.size + 1]? = some (.cells #[.int .i64 0, .bool false, .int .i64 0, .string ⟨#[]⟩, .string ⟨#[]⟩, .string ⟨#[]⟩, .slice none 0 0] 28 (0, 0)) := by
    have := alloc_heap (w.alloc (.cells #[.int .i64 0, .bool false, .int .i64 0, .string ⟨#[]⟩, .string ⟨#[]⟩, .string ⟨#[]⟩, .slice none 0 0] 28)) (.cells #[.int .i64 0, .bool false, .int .i64 0, .string ⟨#[]⟩, .string ⟨#[]⟩, .string ⟨#[]⟩, .slice none 0 0] 28)
    simpa using this
  obtain ⟨hm1, hm2⟩ := hm
  unfold parseE
  generalize toks s.data.toList = TS at *
  obtain ⟨ts, er⟩ := TS
  simp only at TK hm1 hm2 ⊢
  have HM2 := hide hm2
  have HT0 := hide hT0
  clear hm2 hT hT0
  by_cases he : er = 0
  · subst he
    rw [if_pos rfl]
    obtain ⟨o, ho⟩ : ∃ o, o = exprN (ts.length + 1) ts := ⟨_, rfl⟩
    have hF : parseT ts = finT o := by rw [ho]; rfl
    rw [hF]
    rw [← ho] at HM2
    have HO := hide ho
    clear hF ho
    go_enter Tryz.func13, Tryz.ntmps13
    go_wp2_with fail
    generalize (w.alloc _).alloc _ = w0 at *
    refine TK.mono ?_
    rintro e w1 ⟨v, rfl, hown, b1⟩
    obtain ⟨ao, cap, rfl, hcap, hrow⟩ := blkTok hown
    have hT1 := (unhide HT0).below b1
    have b01 := b0.trans (b1.mono b0.size)
    have n2 := new1 w1 (.cells #[.slice ao ts.length cap, .bool false] 59)
    have hrd : RdAt (w1.alloc (.cells #[.slice ao ts.length cap, .bool false] 59)) w1.heap.size (some ts) := by
      refine ⟨⟨ao, cap, alloc_heap _ _, hcap, by omega, hrow.same fun k hk => n2.block k hk⟩, ?_⟩
      obtain ⟨_, h2, t, fr, h3⟩ := hT1
      exact ⟨h2, t, fr, kept_of_below n2 h3⟩
    have X : Calls Tryz.prog 14 #[.pointer (some ⟨w1.heap.size, 0, none⟩)] _ (Res w1.heap.size _ (exprN (ts.length + 1) ts)) := exprN_does (ts.length + 1) (some ts) _ w1.heap.size (Nat.lt_succ_self _) hrd
    rw [← unhide HO] at X
    have h8 : w.heap.size + 1 < w0.heap.size := (Array.getElem?_eq_some_iff.1 z8).1
    have hs1 := b1.size
    have z6 := kept_of_below n2 (kept_of_below b1 z6)
    have z8 := kept_of_below n2 (kept_of_below b1 z8)
    have b02 := b01.trans (n2.mono b01.size)
    have hz2 : w1.heap.size < (w1.alloc (.cells #[.slice ao ts.length cap, .bool false] 59)).heap.size := by simp
    clear hown hrow hrd hT1 TK HT0 HO
    go_upto_region 6 with fail
    generalize w1.alloc _ = w2 at *
    go_wp2_with fail
    refine X.mono ?_
    rintro e w3 ⟨r, rfl, k3, r3, hE3⟩
    have HE3 := hide hE3
    clear hE3 X
    unfold R7.val
    have n4 := new1 w3 (.cells #[.int .i64 r.k, .bool r.b, .int .i64 r.n, .string r.s, .string r.t, .string r.i, .slice r.lo r.ll r.lc] 28)
    have hs3 := k3.size
    have K4 : Below w.heap.size w (w3.alloc (.cells #[.int .i64 r.k, .bool r.b, .int .i64 r.n, .string r.s, .string r.t, .string r.i, .slice r.lo r.ll r.lc] 28)) := (k3.below b02 (by omega) (by omega)).trans (n4.mono (by omega))
    have y12 : (w3.alloc (.cells #[.int .i64 r.k, .bool r.b, .int .i64 r.n, .string r.s, .string r.t, .string r.i, .slice r.lo r.ll r.lc] 28)).heap[w3.heap.size]? = some (.cells #[.int .i64 r.k, .bool r.b, .int .i64 r.n, .string r.s, .string r.t, .string r.i, .slice r.lo r.ll r.lc] 28 (0, 0)) := alloc_heap _ _
    have y6 := kept_of_below n4 (k3.kept (by omega) z6)
    have y8 := kept_of_below n4 (k3.kept (by omega) z8)
    have R4 := r3.below n4
    have HE4 : Hid (∀ x q, o = some (x, q) → IsE (w3.alloc (.cells #[.int .i64 r.k, .bool r.b, .int .i64 r.n, .string r.s, .string r.t, .string r.i, .slice r.lo r.ll r.lc] 28)) (fun b => w2.heap.size ≤ b) r x) := hide fun x q hx => IsE.turn n4.size (fun b hb hb2 => ⟨n4.block b hb2, hb⟩) r x (unhide HE3 x q hx)
    have hs4 := n4.size
    clear n4 z6 z8 r3 HE3
    go_upto_region 7 with fail
    generalize w3.alloc _ = w4 at *
    obtain ⟨x0, x1, x2, x3, x4, x5, x6, xf⟩ := blk7 y6
    obtain ⟨u0, u1, u2, u3, u4, u5, u6, _⟩ := blk7 y8
    cases o with
    | none =>
      obtain ⟨c0, c1, _⟩ := rd_cell (show w4.heap[w1.heap.size]? = some (rdObj none 0 0 true) from R4.1)
      clear R4 HE4 HM2
      go_wp2
      exact bodyPost_ret (v := .tuple #[R7.val ⟨0, false, 0, ⟨#[]⟩, ⟨#[]⟩, ⟨#[]⟩, none, 0, 0⟩, .int .i64 13]) (by simp [results, Tryz.results13, go_sem, x0, x1, x2, x3, x4, x5, x6, R7.val]) rfl ⟨_, rfl, below7 K4 (Nat.le_refl _) _ _ _ _ _ _ _, noE_is _ _⟩
    | some p =>
      obtain ⟨x, q⟩ := p
      obtain ⟨ao', cap', hrd, _, _, _⟩ := (show Rd0 w4 w1.heap.size (some q) from R4.1)
      obtain ⟨c0, c1, _⟩ := rd_cell hrd
      clear R4
      cases q with
      | cons t' q' =>
        have i1 : (0 : Int) < ((t' :: q').length : Int) := by simp
        generalize (t' :: q').length = nq at *
        clear HE4 HM2
        go_wp2
        exact bodyPost_ret (v := .tuple #[R7.val ⟨0, false, 0, ⟨#[]⟩, ⟨#[]⟩, ⟨#[]⟩, none, 0, 0⟩, .int .i64 13]) (by simp [results, Tryz.results13, go_sem, x0, x1, x2, x3, x4, x5, x6, R7.val]) rfl ⟨_, rfl, below7 K4 (Nat.le_refl _) _ _ _ _ _ _ _, noE_is _ _⟩
      | nil =>
        obtain ⟨hok, hdp⟩ := unhide HM2 x [] rfl
        have hx4 := unhide HE4 x [] rfl
        have FN := finish_tree x r w4 _ w3.heap.size hdp hok hx4 y12
        have Hx4 := hide hx4
        clear HM2 HE4 hok hdp hx4
        have hfin : finT (some (x, [])) = if checkE x = 0 then (x, 0) else (noE, checkE x) := rfl
        have HFI := hide hfin
        clear hfin
        by_cases hc : checkE x = 0
        · rw [hc] at FN
          have HFF := hide (show finT (some (x, [])) = (x, 0) by rw [unhide HFI, if_pos hc])
          clear hc HFI
          go_wp2_with fail
          refine FN.mono ?_
          rintro e w5 ⟨rfl, b5⟩
          clear x0 x1 x2 x3 x4 x5 x6 xf u0 u1 u2 u3 u4 u5 u6 c0 c1 FN
          obtain ⟨x0, x1, x2, x3, x4, x5, x6, xf⟩ := blk7 (kept_of_below b5 y6)
          obtain ⟨v0, v1, v2, v3, v4, v5, v6, _⟩ := blk7 (kept_of_below b5 y12)
          have K5 := K4.trans (b5.mono (by omega))
          have HI : Hid (∀ v0 v1 v2 v3 v4 v5 v6, IsE (set7 w5 w.heap.size v0 v1 v2 v3 v4 v5 v6) (fun b => w.heap.size ≤ b) r x) := hide fun v0 v1 v2 v3 v4 v5 v6 => IsE.turn (by rw [set7_size]; exact b5.size) (fun b hb hb2 => ⟨(set7_heap _ _ _ _ _ _ _ _ _ _ (by omega)).trans (b5.block b hb2), by omega⟩) r x (unhide Hx4)
          go_wp2
          exact bodyPost_ret (v := .tuple #[R7.val r, .int .i64 0]) (by simp [results, Tryz.results13, go_sem, x0, x1, x2, x3, x4, x5, x6, R7.val]) rfl ⟨_, by rw [unhide HFF], below7 K5 (Nat.le_refl _) _ _ _ _ _ _ _, by rw [unhide HFF]; exact unhide HI _ _ _ _ _ _ _⟩
        · have HFF := hide (show finT (some (x, [])) = (noE, checkE x) by rw [unhide HFI, if_neg hc])
          generalize checkE x = c at *
          have hc' : (c == 0) = false := by simpa using hc
          clear HFI
          go_wp2_with fail
          refine FN.mono ?_
          rintro e w5 ⟨rfl, b5⟩
          clear x0 x1 x2 x3 x4 x5 x6 xf u0 u1 u2 u3 u4 u5 u6 c0 c1 FN
          obtain ⟨x0, x1, x2, x3, x4, x5, x6, xf⟩ := blk7 (kept_of_below b5 y6)
          obtain ⟨u0, u1, u2, u3, u4, u5, u6, _⟩ := blk7 (kept_of_below b5 y8)
          have K5 := K4.trans (b5.mono (by omega))
          go_wp2
          exact bodyPost_ret (v := .tuple #[R7.val ⟨0, false, 0, ⟨#[]⟩, ⟨#[]⟩, ⟨#[]⟩, none, 0, 0⟩, .int .i64 c]) (by simp [results, Tryz.results13, go_sem, x0, x1, x2, x3, x4, x5, x6, R7.val]) rfl ⟨_, by rw [unhide HFF], below7 K5 (Nat.le_refl _) _ _ _ _ _ _ _, by rw [unhide HFF]; exact noE_is _ _⟩
  · rw [if_neg he]
    have he' : (er == 0) = false := by simpa using he
    clear HM2 HT0 hm1
    go_enter Tryz.func13, Tryz.ntmps13
    go_wp2_with fail
    generalize (w.alloc _).alloc _ = w0 at *
    refine TK.mono ?_
    rintro e w1 ⟨v, rfl, hown, b1⟩
    obtain ⟨ao, cap, rfl, hcap, hrow⟩ := blkTok hown
    have b01 := b0.trans (b1.mono b0.size)
    obtain ⟨x0, x1, x2, x3, x4, x5, x6, xf⟩ := blk7 (kept_of_below b1 z6)
    obtain ⟨u0, u1, u2, u3, u4, u5, u6, _⟩ := blk7 (kept_of_below b1 z8)
    clear hown hrow TK
    go_wp2
    exact bodyPost_ret (v := .tuple #[R7.val ⟨0, false, 0, ⟨#[]⟩, ⟨#[]⟩, ⟨#[]⟩, none, 0, 0⟩, .int .i64 er]) (by simp [results, Tryz.results13, go_sem, x0, x1, x2, x3, x4, x5, x6, R7.val]) rfl ⟨_, rfl, below7 b01 (Nat.le_refl _) _ _ _ _ _ _ _, noE_is _ _⟩

set_option maxHeartbeats 4000000 in
set_option maxRecDepth 1000000 in
theorem pexpr_any (s : ByteArray) (w : World) (hT : Tabs w) (hs : s.size ≤ 1099511627776) (hm : Mild s.data.toList) :
    Calls Tryz.prog 8 #[.string s] w fun e w' => ∃ r : R7, e = .returned (.tuple #[r.val, .int .i64 (parseE s.data.toList).2]) ∧ Below w.heap.size w w' ∧ IsE w' (fun b => w.heap.size ≤ b) r (parseE s.data.toList).1 := by
  have b0 := new1 w (.cells #[.int .i64 0, .bool false, .int .i64 0, .string ⟨#[]⟩, .string ⟨#[]⟩, .string ⟨#[]⟩, .slice none 0 0] 28)
  have z0 : (w.alloc (.cells #[.int .i64 0, .bool false, .int .i64 0, .string ⟨#[]⟩, .string ⟨#[]⟩, .string ⟨#[]⟩, .slice none 0 0] 28)).heap[w.heap.size]? = some (.cells #[.int .i64 0, .bool false, .int .i64 0, .string ⟨#[]⟩, .string ⟨#[]⟩, .string ⟨#[]⟩, .slice none 0 0] 28 (0, 0)) := alloc_heap _ _
  have RD := readE_any s _ (hT.below b0) hs hm
  generalize parseE s.data.toList = F at *
  obtain ⟨x, c⟩ := F
  simp only at RD ⊢
  clear hT hs hm
  go_enter Tryz.func8, Tryz.ntmps8
  go_wp2_with fail
  generalize w.alloc _ = w0 at *
  refine RD.mono ?_
  rintro e w1 ⟨r, rfl, b1, hE1⟩
  have hz0 : w.heap.size < w0.heap.size := (Array.getElem?_eq_some_iff.1 z0).1
  have b01 := b0.trans (b1.mono b0.size)
  have HI : Hid (∀ v0 v1 v2 v3 v4 v5 v6, IsE (set7 w1 w.heap.size v0 v1 v2 v3 v4 v5 v6) (fun b => w.heap.size ≤ b) r x) := hide fun v0 v1 v2 v3 v4 v5 v6 => IsE.turn (by rw [set7_size]; exact Nat.le_refl _) (fun b hb _ => ⟨set7_heap _ _ _ _ _ _ _ _ _ _ (by omega), by omega⟩) r x hE1
  obtain ⟨x0, x1, x2, x3, x4, x5, x6, xf⟩ := blk7 (kept_of_below b1 z0)
  clear hE1 RD
  unfold R7.val
  go_wp2
  exact bodyPost_ret (v := .tuple #[R7.val r, .int .i64 c]) (by simp [results, Tryz.results8, go_sem, x0, x1, x2, x3, x4, x5, x6, R7.val]) rfl ⟨_, rfl, below7 b01 (Nat.le_refl _) _ _ _ _ _ _ _, unhide HI _ _ _ _ _ _ _⟩
end Go.Proofs.YtlakgnnjokienaaGreatDoor
