/-
  Package types: meetsAction, meetsType, Envs: what they return.
-/
import Derived.Test.YtjajhmojcmfidabTyRK
namespace Go.Proofs.Ytjajhmojcmfidab
open Go.RowKit Go.Sort

/-- What a request is of. -/
structure V3 where
  p : ByteArray
  a : ByteArray
  r : ByteArray
deriving DecidableEq
def V3.cells (v : V3) : List Value := [.string v.p, .string v.a, .string v.r]
def V3.val (v : V3) : Value := .agg #[.string v.p, .string v.a, .string v.r]
def meetA (k : Int) (t i n : ByteArray) : Bool := decide (k = 0) || decide ((⟨t, i⟩ : U2) = ⟨sAction, n⟩)
def meetT (k : Int) (t n : ByteArray) : Bool := !decide (k = 1) || decide (t = n)
/-- What the scopes ask for. -/
structure Q7 where
  pk : Int
  pt : ByteArray
  ak : Int
  at_ : ByteArray
  ai : ByteArray
  rk : Int
  rt : ByteArray
def envR (q : Q7) (a : AP) (p : ByteArray) (l : List ByteArray) : List V3 := l.flatMap fun r => if meetT q.pk q.pt p && meetT q.rk q.rt r then [⟨p, a.nm, r⟩] else []
def envQ (q : Q7) (a : AP) (l : List ByteArray) : List V3 := l.flatMap fun p => envR q a p a.re
def envA (q : Q7) (l : List AP) : List V3 := l.flatMap fun a => if meetA q.ak q.at_ q.ai a.nm then envQ q a a.pr else []
/-- The environments that a policy may meet. -/
def envsP (q : Q7) (s : SP) : List V3 := envA q s.ac
def RowV3 (w : World) (ao : Option Addr) (l : List V3) : Prop := RowG w ao 3 (l.map V3.cells)
/-- A row of environments is returned. -/
def EnvsPost (w : World) (l : List V3) (e : Ending) (w' : World) : Prop := Below w.heap.size w w' ∧ ∃ lo cap, e = .returned (.slice lo l.length cap) ∧ RowV3 w' lo l
theorem infoV3 : (Try.prog.info? 39).map (fun i => (i.zero, i.size, i.bytes)) = some (some (.agg #[.string ⟨#[]⟩, .string ⟨#[]⟩, .string ⟨#[]⟩]), 3, 48) := by kernel_rfl
set_option maxHeartbeats 2000000 in
set_option maxRecDepth 1000000 in
theorem meetsAction_any (k : Int) (t i n : ByteArray) (w : World) : Calls Try.prog 30 #[.agg #[.int .i64 k, .string t, .string i], .string n] w fun e w' => e = .returned (.bool (meetA k t i n)) ∧ Below w.heap.size w w' := by
  have b1 := blw1 w (.cells #[.int .i64 k, .string t, .string i] 56)
  have h1 := alloc_heap w (.cells #[.int .i64 k, .string t, .string i] 56)
  have BU := binEqlUid ⟨t, i⟩ ⟨⟨#[65, 99, 116, 105, 111, 110]⟩, n⟩
  simp only at BU
  have HE := hide (show meetA k t i n = (decide (k = 0) || decide ((⟨t, i⟩ : U2) = ⟨⟨#[65, 99, 116, 105, 111, 110]⟩, n⟩)) from rfl)
  generalize decide ((⟨t, i⟩ : U2) = ⟨⟨#[65, 99, 116, 105, 111, 110]⟩, n⟩) = z at *
  go_enter Try.func30, Try.ntmps30
  go_upto_region 1 with fail
  generalize w.alloc _ = w1 at *
  have c0 : w1.cell? ⟨w.heap.size, 0, none⟩ = some (.int .i64 k) := by rw [Lib.cell_of_heap h1]; rfl
  have c1 : w1.cell? ⟨w.heap.size, 1, none⟩ = some (.string t) := by rw [Lib.cell_of_heap h1]; rfl
  have c2 : w1.cell? ⟨w.heap.size, 2, none⟩ = some (.string i) := by rw [Lib.cell_of_heap h1]; rfl
  by_cases h0 : k = 0
  · subst h0
    have HE := hide ((unhide HE).trans (show _ = true by simp))
    go_wp2
    go_ret
    exact ⟨by rw [unhide HE]; rfl, b1⟩
  · have g0 : (k == 0) = false := by simpa using h0
    have HE := hide ((unhide HE).trans (show _ = z by simp [h0]))
    clear h0
    go_wp2
    go_ret
    exact ⟨by rw [unhide HE]; rfl, b1⟩
set_option maxHeartbeats 2000000 in
set_option maxRecDepth 1000000 in
theorem meetsType_any (k : Int) (t i n : ByteArray) (w : World) : Calls Try.prog 31 #[.agg #[.int .i64 k, .string t, .string i], .string n] w fun e w' => e = .returned (.bool (meetT k t n)) ∧ Below w.heap.size w w' := by
  have b1 := blw1 w (.cells #[.int .i64 k, .string t, .string i] 56)
  have h1 := alloc_heap w (.cells #[.int .i64 k, .string t, .string i] 56)
  go_enter Try.func31, Try.ntmps31
  go_upto_region 1 with fail
  generalize w.alloc _ = w1 at *
  have c0 : w1.cell? ⟨w.heap.size, 0, none⟩ = some (.int .i64 k) := by rw [Lib.cell_of_heap h1]; rfl
  have c1 : w1.cell? ⟨w.heap.size, 1, none⟩ = some (.string t) := by rw [Lib.cell_of_heap h1]; rfl
  have c2 : w1.cell? ⟨w.heap.size, 2, none⟩ = some (.string i) := by rw [Lib.cell_of_heap h1]; rfl
  by_cases h0 : k = 1
  · subst h0
    have HE := hide (show meetT 1 t n = (t.toList == n.toList) from by unfold meetT; rw [← beq_bytesS]; simp)
    obtain ⟨z, hz⟩ : ∃ z, (t.toList == n.toList) = z := ⟨_, rfl⟩
    rw [hz] at HE
    go_wp2
    go_ret
    exact ⟨by rw [unhide HE]; rfl, b1⟩
  · have g0 : (k == 1) = false := by simpa using h0
    have HE := hide (show meetT k t n = true from by unfold meetT; simp [h0])
    have g1 : (k != 1) = true := by simpa using h0
    go_wp2
    go_ret
    exact ⟨by rw [unhide HE]; rfl, b1⟩
theorem own_ne {w : World} {B n b : Nat} {T T' : TypeId} {sz : Nat} {v : Value} {xs : List Value} {c : Array Value} {fz : Nat × Nat} (h : w.ownsRow B T sz v n xs) (h' : w.heap[b]? = some (.cells c T' fz)) (hT : T' ≠ T) : some b ≠ v.ownBlock := by
  rcases h.2 with ⟨rfl, _⟩ | ⟨g, cap, cur, rfl, _, hg, _⟩
  · intro e
    cases e
  · intro e
    injection e with e
    rw [e] at h'
    rw [h'] at hg
    injection hg with hg
    injection hg with _ hg
    exact hT hg
set_option maxHeartbeats 16000000 in
set_option maxRecDepth 1000000 in
theorem yEnvs_any (s : SP) (v : Value) (fb : Bool) (pk : Int) (pt pi : ByteArray) (ak : Int) (at_ ai : ByteArray) (rk : Int) (rt ri : ByteArray) (co : Option Addr) (cl cc : Nat) (w : World) (hac : s.ac.length ≤ 100000) (hsm : ∀ a ∈ s.ac, a.pr.length ≤ 100000 ∧ a.re.length ≤ 100000) (hT : (envsP (⟨pk, pt, ak, at_, ai, rk, rt⟩ : Q7) s).length ≤ 1000000) (hs : IsS w v s) :
    Calls Try.prog 17 #[v, .agg #[.bool fb, .int .i64 pk, .string pt, .string pi, .int .i64 ak, .string at_, .string ai, .int .i64 rk, .string rt, .string ri, .slice co cl cc]] w fun e w' => EnvsPost w (envsP (⟨pk, pt, ak, at_, ai, rk, rt⟩ : Q7) s) e w' := by
  obtain ⟨ko, kc, ao, acp, rfl, _, hA⟩ := hs.ex
  obtain ⟨bX, zX, k1, k2⟩ := alloc2 w (.cells #[.slice ko s.ks.length kc, .slice ao s.ac.length acp] 28) (.cells #[.bool fb, .int .i64 pk, .string pt, .string pi, .int .i64 ak, .string at_, .string ai, .int .i64 rk, .string rt, .string ri, .slice co cl cc] 59)
  clear zX
  obtain ⟨iT, hiT, hzT0, hzT1, hzT2⟩ := info_parts infoV3
  obtain ⟨TT, hTT⟩ : ∃ TT, TT = envsP (⟨pk, pt, ak, at_, ai, rk, rt⟩ : Q7) s := ⟨_, rfl⟩
  rw [← hTT] at hT ⊢
  have HT := hide (show TT = [] ++ envA (⟨pk, pt, ak, at_, ai, rk, rt⟩ : Q7) (s.ac.drop 0) from hTT)
  have HA := hide hA
  have Hsm := hide hsm
  obtain ⟨na, hna⟩ : ∃ na : Nat, na = s.ac.length := ⟨_, rfl⟩
  have Hna := hide hna
  have hnb : na ≤ 100000 := by rw [hna]; exact hac
  rw [← hna] at k1 k2 bX ⊢
  clear hs hA hTT hsm hac hna
  go_enter Try.func17, Try.ntmps17
  go_upto_region 1 with fail
  generalize (w.alloc _).alloc _ = w1 at *
  have cs1 : w1.cell? ⟨w.heap.size, 1, none⟩ = some (.slice ao na acp) := by rw [Lib.cell_of_heap k1]; rfl
  go_wp2_with fail
  clear cs1
  go_loopw [5, 15] (fun kv iv wr => ∃ (i : Nat) (acc : List V3), iv = .int .i64 i ∧ i ≤ na ∧ Below w1.heap.size w1 wr ∧ wr.ownsRow w1.heap.size 39 3 kv acc.length (acc.map V3.cells).flatten ∧ TT = acc ++ envA (⟨pk, pt, ak, at_, ai, rk, rt⟩ : Q7) (s.ac.drop i)) (fun _ iv _ => na - (intOf iv).toNat)
  case atStart => exact ⟨0, [], by go_num, Nat.zero_le _, Below.refl _ _, ⟨rfl, .inl ⟨rfl, rfl⟩⟩, unhide HT⟩
  case round =>
    rename Value => kv
    obtain ⟨i, acc, rfl, hil, hbw, hown, hty⟩ := hrel
    have Hown := hide hown
    have Hty := hide hty
    clear hown hty
    have b0r := bX.trans (hbw.mono bX.size)
    have k2r := kept_of_below hbw k2
    by_cases hlt : i < na
    · have i0 : (0 : Int) ≤ (i : Int) := by omega
      have i1 : (i : Int) < (na : Int) := by omega
      have hlt' : i < s.ac.length := by rw [← unhide Hna]; exact hlt
      obtain ⟨x, g, off, rfl, hg, hat0, hIA⟩ := (unhide HA).get (Below.refl _ w) hlt'
      obtain ⟨a0, a1, a2⟩ := hat0.below b0r hg
      have hlen := unhide Hsm _ (List.getElem_mem hlt')
      have HD := hide (show TT = acc ++ ((if meetA ak at_ ai s.ac[i].nm then envQ (⟨pk, pt, ak, at_, ai, rk, rt⟩ : Q7) s.ac[i] s.ac[i].pr else []) ++ envA (⟨pk, pt, ak, at_, ai, rk, rt⟩ : Q7) (s.ac.drop (i + 1))) from by
        rw [unhide Hty, List.drop_eq_getElem_cons hlt']
        rfl)
      obtain ⟨R2, hR2⟩ : ∃ R2, R2 = envA (⟨pk, pt, ak, at_, ai, rk, rt⟩ : Q7) (s.ac.drop (i + 1)) := ⟨_, rfl⟩
      rw [← hR2] at HD
      have HR2 := hide hR2
      obtain ⟨A, hAA⟩ : ∃ A, A = s.ac[i] := ⟨_, rfl⟩
      rw [← hAA] at hIA hlen HD
      clear hAA hlt' hat0 hR2 Hty
      obtain ⟨xn, xao, np, xac, xbo, nr, xbc⟩ := x
      obtain ⟨e1, e2, e3, e4, e5⟩ := hIA
      simp only at e1 e2 e3 e4 e5 a0 a1 a2
      subst e1
      have HP := hide e3
      have HRe := hide e5
      have Hnp := hide e2
      have Hnr := hide e4
      have hlp : np ≤ 100000 := by rw [e2]; exact hlen.1
      have hlr : nr ≤ 100000 := by rw [e4]; exact hlen.2
      clear e2 e3 e4 e5 hlen
      have b4 := blw1 wr (.cells #[.string A.nm, .slice xao np xac, .slice xbo nr xbc] 54)
      have h4 := alloc_heap wr (.cells #[.string A.nm, .slice xao np xac, .slice xbo nr xbc] 54)
      have bw4 := hbw.trans (b4.mono hbw.size)
      have k24 := kept_of_below b4 k2r
      have Hown4 := hide (owns_below b4 (unhide Hown))
      clear Hown
      go_upto_region 5 with fail
      generalize wr.alloc _ = w4 at *
      clear a0 a1 a2
      have zw4 : wr.heap.size < w4.heap.size := (Array.getElem?_eq_some_iff.1 h4).1
      have ca0 : w4.cell? ⟨wr.heap.size, 0, none⟩ = some (.string A.nm) := by rw [Lib.cell_of_heap h4]; rfl
      have ca1 : w4.cell? ⟨wr.heap.size, 1, none⟩ = some (.slice xao np xac) := by rw [Lib.cell_of_heap h4]; rfl
      have cp4 : w4.cell? ⟨w.heap.size + 1, 4, none⟩ = some (.int .i64 ak) := by rw [Lib.cell_of_heap k24]; rfl
      have cp5 : w4.cell? ⟨w.heap.size + 1, 5, none⟩ = some (.string at_) := by rw [Lib.cell_of_heap k24]; rfl
      have cp6 : w4.cell? ⟨w.heap.size + 1, 6, none⟩ = some (.string ai) := by rw [Lib.cell_of_heap k24]; rfl
      have C := meetsAction_any ak at_ ai A.nm w4
      generalize meetA ak at_ ai A.nm = z at *
      go_wp2_with fail
      refine C.mono ?_
      clear C cp4 cp5 cp6
      rintro e9 w5 ⟨rfl, b5⟩
      have ca1 := (b5.cell (p := ⟨wr.heap.size, 1, none⟩) zw4).trans ca1
      have bw5 := bw4.trans (b5.mono bw4.size)
      have h5 := kept_of_below b5 h4
      have Hown5 := hide (owns_below b5 (unhide Hown4))
      clear Hown4 ca0 h4 k24
      cases z
      · have HD := hide (show TT = acc ++ envA (⟨pk, pt, ak, at_, ai, rk, rt⟩ : Q7) (s.ac.drop (i + 1)) from by rw [unhide HD, ← unhide HR2]; rfl)
        go_wp2
        go_roundw
        case rel => exact ⟨i + 1, acc, by go_num, by omega, bw5, unhide Hown5, unhide HD⟩
        case measure =>
          simp only [intOf]
          omega
      · have HD := hide (show TT = acc ++ (envQ (⟨pk, pt, ak, at_, ai, rk, rt⟩ : Q7) A (A.pr.drop 0) ++ R2) from unhide HD)
        go_wp2_with fail
        clear ca1
        go_loopw [5, 28] (fun kv jv wm => ∃ (j : Nat) (acc : List V3), jv = .int .i64 j ∧ j ≤ np ∧ Below w1.heap.size w1 wm ∧ wm.heap[wr.heap.size]? = some (.cells #[.string A.nm, .slice xao np xac, .slice xbo nr xbc] 54 (0, 0)) ∧ wm.ownsRow w1.heap.size 39 3 kv acc.length (acc.map V3.cells).flatten ∧ TT = acc ++ (envQ (⟨pk, pt, ak, at_, ai, rk, rt⟩ : Q7) A (A.pr.drop j) ++ R2)) (fun _ jv _ => np - (intOf jv).toNat)
        case atStart => exact ⟨0, acc, by go_num, Nat.zero_le _, bw5, h5, unhide Hown5, unhide HD⟩
        case round =>
          rename World => wm
          rename Value => kv2
          obtain ⟨j, acc2, rfl, hjl, hbm, hbox, hown2, hty2⟩ := hrel
          have Hown2 := hide hown2
          have Hty2 := hide hty2
          clear hown2 hty2
          have b0m := bX.trans (hbm.mono bX.size)
          have zm : wr.heap.size < wm.heap.size := (Array.getElem?_eq_some_iff.1 hbox).1
          by_cases hjt : j < np
          · have j0 : (0 : Int) ≤ (j : Int) := by omega
            have j1 : (j : Int) < (np : Int) := by omega
            have hjt' : j < A.pr.length := by rw [← unhide Hnp]; exact hjt
            obtain ⟨g2, off2, rfl, hg2, c2⟩ := (unhide HP).get b0m hjt'
            have HD2 := hide (show TT = acc2 ++ (envR (⟨pk, pt, ak, at_, ai, rk, rt⟩ : Q7) A A.pr[j] (A.re.drop 0) ++ (envQ (⟨pk, pt, ak, at_, ai, rk, rt⟩ : Q7) A (A.pr.drop (j + 1)) ++ R2)) from by
              rw [unhide Hty2, List.drop_eq_getElem_cons hjt']
              exact congrArg (acc2 ++ ·) (List.append_assoc (envR (⟨pk, pt, ak, at_, ai, rk, rt⟩ : Q7) A A.pr[j] A.re) (envQ (⟨pk, pt, ak, at_, ai, rk, rt⟩ : Q7) A (A.pr.drop (j + 1))) R2))
            obtain ⟨p_, hp_⟩ : ∃ p_, p_ = A.pr[j] := ⟨_, rfl⟩
            rw [← hp_] at HD2 c2
            obtain ⟨R3, hR3⟩ : ∃ R3, R3 = envQ (⟨pk, pt, ak, at_, ai, rk, rt⟩ : Q7) A (A.pr.drop (j + 1)) ++ R2 := ⟨_, rfl⟩
            rw [← hR3] at HD2
            have HR3 := hide hR3
            clear hp_ Hty2 hjt' hR3
            have cb2 : wm.cell? ⟨wr.heap.size, 2, none⟩ = some (.slice xbo nr xbc) := by rw [Lib.cell_of_heap hbox]; rfl
            go_wp2_with fail
            clear cb2 c2
            go_loopw [5, 35] (fun kv jv wi => ∃ (k : Nat) (acc : List V3), jv = .int .i64 k ∧ k ≤ nr ∧ Below w1.heap.size w1 wi ∧ wi.heap[wr.heap.size]? = some (.cells #[.string A.nm, .slice (some ⟨g2, off2, none⟩) np xac, .slice xbo nr xbc] 54 (0, 0)) ∧ wi.ownsRow w1.heap.size 39 3 kv acc.length (acc.map V3.cells).flatten ∧ TT = acc ++ (envR (⟨pk, pt, ak, at_, ai, rk, rt⟩ : Q7) A p_ (A.re.drop k) ++ R3)) (fun _ jv _ => nr - (intOf jv).toNat)
            case atStart => exact ⟨0, acc2, by go_num, Nat.zero_le _, hbm, hbox, unhide Hown2, unhide HD2⟩
            case round =>
              rename World => wi
              rename Value => kv3
              obtain ⟨k, acc3, rfl, hkl, hbi, hbox3, hown3, hty3⟩ := hrel
              have Hown3 := hide hown3
              have Hty3 := hide hty3
              clear hown3 hty3
              have b0i := bX.trans (hbi.mono bX.size)
              have k2i := kept_of_below hbi k2
              have zi : wr.heap.size < wi.heap.size := (Array.getElem?_eq_some_iff.1 hbox3).1
              by_cases hkt : k < nr
              · have k0 : (0 : Int) ≤ (k : Int) := by omega
                have k1' : (k : Int) < (nr : Int) := by omega
                have hkt' : k < A.re.length := by rw [← unhide Hnr]; exact hkt
                obtain ⟨g3, off3, rfl, hg3, c3⟩ := (unhide HRe).get b0i hkt'
                have HD3 := hide (show TT = acc3 ++ ((if meetT pk pt p_ && meetT rk rt A.re[k] then [⟨p_, A.nm, A.re[k]⟩] else []) ++ (envR (⟨pk, pt, ak, at_, ai, rk, rt⟩ : Q7) A p_ (A.re.drop (k + 1)) ++ R3)) from by
                  rw [unhide Hty3, List.drop_eq_getElem_cons hkt']
                  exact congrArg (acc3 ++ ·) (List.append_assoc (if meetT pk pt p_ && meetT rk rt A.re[k] then [(⟨p_, A.nm, A.re[k]⟩ : V3)] else []) (envR (⟨pk, pt, ak, at_, ai, rk, rt⟩ : Q7) A p_ (A.re.drop (k + 1))) R3))
                obtain ⟨r_, hr_⟩ : ∃ r_, r_ = A.re[k] := ⟨_, rfl⟩
                rw [← hr_] at HD3 c3
                clear hr_ Hty3 hkt'
                have C1 := meetsType_any pk pt pi p_ wi
                have cp1 : wi.cell? ⟨w.heap.size + 1, 1, none⟩ = some (.int .i64 pk) := by rw [Lib.cell_of_heap k2i]; rfl
                have cp2 : wi.cell? ⟨w.heap.size + 1, 2, none⟩ = some (.string pt) := by rw [Lib.cell_of_heap k2i]; rfl
                have cp3 : wi.cell? ⟨w.heap.size + 1, 3, none⟩ = some (.string pi) := by rw [Lib.cell_of_heap k2i]; rfl
                obtain ⟨y1, hy1⟩ : ∃ y1, y1 = meetT pk pt p_ := ⟨_, rfl⟩
                obtain ⟨y2, hy2⟩ : ∃ y2, y2 = meetT rk rt r_ := ⟨_, rfl⟩
                rw [← hy1, ← hy2] at HD3
                rw [← hy1] at C1
                have HY2 := hide hy2
                clear hy1 hy2
                go_wp2_with fail
                refine C1.mono ?_
                clear C1 cp1 cp2 cp3 c3
                rintro e9 w6 ⟨rfl, b6⟩
                have bw6 := hbi.trans (b6.mono hbi.size)
                have k26 := kept_of_below b6 k2i
                have hbox6 := kept_of_below b6 hbox3
                have Hown6 := hide (owns_below b6 (unhide Hown3))
                clear Hown3
                cases y1
                · have HD3 := hide (show TT = acc3 ++ (envR (⟨pk, pt, ak, at_, ai, rk, rt⟩ : Q7) A p_ (A.re.drop (k + 1)) ++ R3) from unhide HD3)
                  go_wp2
                  go_roundw
                  case rel => exact ⟨k + 1, acc3, by go_num, by omega, bw6, hbox6, unhide Hown6, unhide HD3⟩
                  case measure =>
                    simp only [intOf]
                    omega
                · have C2 := meetsType_any rk rt ri r_ w6
                  rw [← unhide HY2] at C2
                  have cp7 : w6.cell? ⟨w.heap.size + 1, 7, none⟩ = some (.int .i64 rk) := by rw [Lib.cell_of_heap k26]; rfl
                  have cp8 : w6.cell? ⟨w.heap.size + 1, 8, none⟩ = some (.string rt) := by rw [Lib.cell_of_heap k26]; rfl
                  have cp9 : w6.cell? ⟨w.heap.size + 1, 9, none⟩ = some (.string ri) := by rw [Lib.cell_of_heap k26]; rfl
                  go_wp2_with fail
                  refine C2.mono ?_
                  clear C2 cp7 cp8 cp9
                  rintro e9 w7 ⟨rfl, b7⟩
                  have bw7 := bw6.trans (b7.mono bw6.size)
                  have hbox7 := kept_of_below b7 hbox6
                  have Hown7 := hide (owns_below b7 (unhide Hown6))
                  clear Hown6 k26
                  cases y2
                  · have HD3 := hide (show TT = acc3 ++ (envR (⟨pk, pt, ak, at_, ai, rk, rt⟩ : Q7) A p_ (A.re.drop (k + 1)) ++ R3) from unhide HD3)
                    go_wp2
                    go_roundw
                    case rel => exact ⟨k + 1, acc3, by go_num, by omega, bw7, hbox7, unhide Hown7, unhide HD3⟩
                    case measure =>
                      simp only [intOf]
                      omega
                  · have HD3 := hide (show TT = (acc3 ++ [⟨p_, A.nm, r_⟩]) ++ (envR (⟨pk, pt, ak, at_, ai, rk, rt⟩ : Q7) A p_ (A.re.drop (k + 1)) ++ R3) from by
                      rw [unhide HD3, List.append_assoc]
                      rfl)
                    have hal : acc3.length + 1 ≤ 1000000 := by
                      have h1 : (acc3 ++ [(⟨p_, A.nm, r_⟩ : V3)]).length ≤ TT.length := by
                        rw [unhide HD3, @List.length_append _ (acc3 ++ [(⟨p_, A.nm, r_⟩ : V3)])]
                        exact Nat.le_add_right _ _
                      rw [List.length_append, List.length_singleton] at h1
                      omega
                    have cA : w7.cell? ⟨wr.heap.size, 0, none⟩ = some (.string A.nm) := by rw [Lib.cell_of_heap hbox7]; rfl
                    have b8 := blw1 w7 (.cells #[.string p_, .string A.nm, .string r_] 39)
                    have h8 := alloc_heap w7 (.cells #[.string p_, .string A.nm, .string r_] 39)
                    have Hown8 := hide (owns_below b8 (unhide Hown7))
                    have bw8 := bw7.trans (b8.mono bw7.size)
                    have hbox8 := kept_of_below b8 hbox7
                    have z8 : w1.heap.size ≤ (w7.alloc (.cells #[.string p_, .string A.nm, .string r_] 39)).heap.size := bw8.size
                    clear Hown7
                    go_wp2_with (at_builtin; refine wpList_append_own_at _ rfl _ _ 72 rfl w1.heap.size 39 iT _ 3 48 Try.underlying72 hiT hzT0 hzT1 hzT2 rfl (by decide) _ _ _ rfl (unhide Hown8) ⟨w7.heap.size, 0, none⟩ 1 1 [.string p_, .string A.nm, .string r_] rfl rfl ?p1 ?p2 ?p3 ?p4 ?p5 ?_)
                    case p1 =>
                      intro c u hu
                      rw [Addr.add_lit, Nat.zero_add, Lib.cell_of_heap h8]
                      simpa using hu
                    case p2 =>
                      intro u hu
                      simp only [List.mem_cons, List.not_mem_nil, or_false] at hu
                      rcases hu with rfl | rfl | rfl <;> rfl
                    case p3 => unfold maxLen; omega
                    case p4 => omega
                    case p5 => first | exact z8 | simpa using z8
                    intro v9 w9 hown9 hgrow _ _
                    have hown9' : w9.ownsRow w1.heap.size 39 3 v9 (acc3 ++ [(⟨p_, A.nm, r_⟩ : V3)]).length ((acc3 ++ [(⟨p_, A.nm, r_⟩ : V3)]).map V3.cells).flatten := by
                      rw [List.map_append, List.flatten_append, List.length_append]
                      exact hown9
                    have bw9 : Below w1.heap.size w1 w9 := bw8.grown hgrow bw8.size (fun j hj => ((unhide Hown8).lt j hj).1)
                    have hbox9 : w9.heap[wr.heap.size]? = some (.cells #[.string A.nm, .slice (some ⟨g2, off2, none⟩) np xac, .slice (some ⟨g3, off3, none⟩) nr xbc] 54 (0, 0)) := (hgrow.block _ (Array.getElem?_eq_some_iff.1 hbox8).1 (own_ne (unhide Hown8) hbox8 (by decide))).trans hbox8
                    have H9 := hide hown9'
                    clear hown9 hown9' hgrow Hown8 h8 cA hbox8 hbox7 hbox6 hbox3
                    go_wp2
                    go_roundw
                    case rel => exact ⟨k + 1, acc3 ++ [⟨p_, A.nm, r_⟩], by go_num, by omega, bw9, hbox9, unhide H9, unhide HD3⟩
                    case measure =>
                      simp only [intOf]
                      omega
              · have k1' : ¬ (k : Int) < (nr : Int) := by omega
                have HD2 := hide (show TT = acc3 ++ (envQ (⟨pk, pt, ak, at_, ai, rk, rt⟩ : Q7) A (A.pr.drop (j + 1)) ++ R2) from by
                  have hn : A.re.length ≤ k := by
                    have := unhide Hnr
                    omega
                  rw [unhide Hty3, List.drop_eq_nil_of_le hn, unhide HR3]
                  rfl)
                clear Hty3
                go_wp2
                go_roundw
                case rel => exact ⟨j + 1, acc3, by go_num, by omega, hbi, hbox3, unhide Hown3, unhide HD2⟩
                case measure =>
                  simp only [intOf]
                  omega
          · have j1 : ¬ (j : Int) < (np : Int) := by omega
            have HD := hide (show TT = acc2 ++ envA (⟨pk, pt, ak, at_, ai, rk, rt⟩ : Q7) (s.ac.drop (i + 1)) from by
              have hn : A.pr.length ≤ j := by
                have := unhide Hnp
                omega
              rw [unhide Hty2, List.drop_eq_nil_of_le hn, unhide HR2]
              rfl)
            clear Hty2
            go_wp2
            go_roundw
            case rel => exact ⟨i + 1, acc2, by go_num, by omega, hbm, unhide Hown2, unhide HD⟩
            case measure =>
              simp only [intOf]
              omega
    · have i1 : ¬ (i : Int) < (na : Int) := by omega
      have HE := hide (show TT = acc from by
        have hn : s.ac.length ≤ i := by
          have := unhide Hna
          omega
        rw [unhide Hty, List.drop_eq_nil_of_le hn]
        simp [envA])
      obtain ⟨tlo, tlc, rfl, hrow, _, _⟩ := own_row (f := V3.cells) (fun _ => rfl) (unhide Hown)
      have Hrow := hide hrow
      obtain ⟨nA, hnA⟩ : ∃ nA : Nat, nA = acc.length := ⟨_, rfl⟩
      rw [← hnA]
      have HnA := hide hnA
      clear hrow Hown Hty hnA
      go_wp2
      go_ret
      refine ⟨b0r, tlo, tlc, ?_, ?_⟩
      · rw [unhide HE, ← unhide HnA]
        rfl
      · rw [unhide HE]
        exact unhide Hrow
end Go.Proofs.Ytjajhmojcmfidab
