/-
  Package types: checkConds, Check: what they return.
-/
import Derived.Test.YtjajhmojcmfidabTyH
namespace Go.Proofs.Ytjajhmojcmfidab
open Go.RowKit Go.Sort

/-- Conditions in memory: eight cells each. -/
def IsCs (w : World) (co : Option Addr) (cs : List (Bool × Ex)) : Prop := ∀ j (h : j < cs.length), ∃ (x : R7) (b off : Nat), co = some ⟨b, off, none⟩ ∧ b < w.heap.size ∧ w.cell? ⟨b, off + j * 8, none⟩ = some (.bool cs[j].1) ∧ At7 w b (off + j * 8 + 1) x ∧ IsE w PT x cs[j].2
theorem IsCs.lift {w w' : World} {co : Option Addr} {cs : List (Bool × Ex)} (h : IsCs w co cs) (hb : Below w.heap.size w w') : IsCs w' co cs := fun j hj => by
  obtain ⟨x, b, off, e, hl, hc, ha, hx⟩ := h j hj
  have := hb.size
  exact ⟨x, b, off, e, by omega, (hb.cell (p := ⟨b, off + j * 8, none⟩) hl).trans hc, ha.below hb hl, hx.lift hb⟩
/-- The first thing that is wrong with conditions. -/
def condE (s : SP) (p r : ByteArray) : List (Bool × Ex) → Int
  | [] => 0
  | c :: l => if (typE s p r c.2).2 = 0 then (if (typE s p r c.2).1.k = 1 then condE s p r l else 16) else (typE s p r c.2).2
def envE (s : SP) (cs : List (Bool × Ex)) : List V3 → Int
  | [] => 0
  | v :: l => if condE s v.p v.r cs = 0 then envE s cs l else condE s v.p v.r cs
structure S3 where
  k : Int
  t : ByteArray
  i : ByteArray
def S3.cells (c : S3) : List Value := [.int .i64 c.k, .string c.t, .string c.i]
def badS (s : SP) (l : List S3) : Bool := l.any fun c => !decide (c.k = 0) && !namedB s c.t c.i
def checkP (s : SP) (q : Q7) (scs : List S3) (cs : List (Bool × Ex)) : Int := if badS s scs then 15 else if envsP q s = [] then 2 else envE s cs (envsP q s)
/-- Conditions whose trees are not great. -/
def mildC (cs : List (Bool × Ex)) : Prop := ∀ c ∈ cs, depE c.2 ≤ 1000 ∧ slE c.2 = true
set_option maxHeartbeats 4000000 in
set_option maxRecDepth 1000000 in
theorem checkConds_any (s : SP) (v : Value) (p ac r : ByteArray) (cs : List (Bool × Ex)) (co : Option Addr) (cc cl : Nat) (w : World) (hcl : cl = cs.length) (hlen : cs.length ≤ 100000) (hmild : mildC cs) (hsm : SmS s) (hs : IsS w v s) (hcs : IsCs w co cs) :
    Calls Try.prog 18 #[v, .agg #[.string p, .string ac, .string r], .slice co cl cc] w fun e w' => e = .returned (.int .i64 (condE s p r cs)) ∧ Below w.heap.size w w' := by
  obtain ⟨ko, kc, ao, acp, rfl, _, _⟩ := hs.ex
  obtain ⟨bX, zX, k1, k2⟩ := alloc2 w (.cells #[.slice ko s.ks.length kc, .slice ao s.ac.length acp] 28) (.cells #[.string p, .string ac, .string r] 39)
  have HS := hide hs
  have HC := hide hcs
  have HM := hide hmild
  have HL := hide hcl
  have hlb : cl ≤ 100000 := by rw [hcl]; exact hlen
  obtain ⟨RR, hRR⟩ : ∃ RR, RR = condE s p r cs := ⟨_, rfl⟩
  rw [← hRR]
  have HR := hide (show RR = condE s p r (cs.drop 0) from hRR)
  clear hs hcs hmild hcl hlen hRR zX
  go_enter Try.func18, Try.ntmps18
  go_upto_region 1 with fail
  generalize (w.alloc _).alloc _ = w1 at *
  go_wp2_with fail
  go_loopw [13] (fun iv wr => ∃ j : Nat, iv = .int .i64 j ∧ j ≤ cl ∧ Below w1.heap.size w1 wr ∧ RR = condE s p r (cs.drop j)) (fun iv _ => cl - (intOf iv).toNat)
  case atStart => exact ⟨0, by go_num, Nat.zero_le _, Below.refl _ _, unhide HR⟩
  case round =>
    obtain ⟨j, rfl, hjl, hbw, hty⟩ := hrel
    have Hty := hide hty
    clear hty
    have b0r := bX.trans (hbw.mono bX.size)
    by_cases hlt : j < cl
    · have i0 : (0 : Int) ≤ (j : Int) := by omega
      have i1 : (j : Int) < (cl : Int) := by omega
      have hlt' : j < cs.length := by rw [← unhide HL]; exact hlt
      obtain ⟨x, g, off, rfl, hg, hu, ⟨a0, a1, a2, a3, a4, a5, a6⟩, hx⟩ := ((unhide HC).lift b0r) j hlt'
      have hm := unhide HM _ (List.getElem_mem hlt')
      have HD := hide (show RR = (if (typE s p r cs[j].2).2 = 0 then (if (typE s p r cs[j].2).1.k = 1 then condE s p r (cs.drop (j + 1)) else 16) else (typE s p r cs[j].2).2) from by
        rw [unhide Hty, List.drop_eq_getElem_cons hlt']
        rfl)
      obtain ⟨c, hc⟩ : ∃ c, c = cs[j] := ⟨_, rfl⟩
      rw [← hc] at hu hx hm HD
      obtain ⟨u, e⟩ := c
      simp only at hu hx hm HD
      have b4 := blw1 wr (.cells #[.bool u, .int .i64 x.k, .bool x.b, .int .i64 x.n, .string x.s, .string x.t, .string x.i, .slice x.lo x.ll x.lc] 61)
      have h4 := alloc_heap wr (.cells #[.bool u, .int .i64 x.k, .bool x.b, .int .i64 x.n, .string x.s, .string x.t, .string x.i, .slice x.lo x.ll x.lc] 61)
      have b04 := b0r.trans (b4.mono b0r.size)
      have bw4 := hbw.trans (b4.mono hbw.size)
      have k14 := kept_of_below bw4 k1
      have k24 := kept_of_below bw4 k2
      have C := yOf_any s p ac r hsm 1000 e hm.1 hm.2 _ x _ ((unhide HS).below b04) (hx.lift b4)
      obtain ⟨X, hX⟩ : ∃ X, X = typE s p r e := ⟨_, rfl⟩
      rw [← hX] at C HD
      obtain ⟨⟨xk, xo, xn⟩, xe⟩ := X
      unfold TR.ret at C
      simp only at C HD
      clear hc hlt' hx hm hX Hty
      go_upto_region 4 with fail
      generalize wr.alloc _ = w4 at *
      clear hu a0 a1 a2 a3 a4 a5 a6
      have cs0 : w4.cell? ⟨w.heap.size, 0, none⟩ = some (.slice ko s.ks.length kc) := by rw [Lib.cell_of_heap k14]; rfl
      have cs1 : w4.cell? ⟨w.heap.size, 1, none⟩ = some (.slice ao s.ac.length acp) := by rw [Lib.cell_of_heap k14]; rfl
      have cn0 : w4.cell? ⟨w.heap.size + 1, 0, none⟩ = some (.string p) := by rw [Lib.cell_of_heap k24]; rfl
      have cn1 : w4.cell? ⟨w.heap.size + 1, 1, none⟩ = some (.string ac) := by rw [Lib.cell_of_heap k24]; rfl
      have cn2 : w4.cell? ⟨w.heap.size + 1, 2, none⟩ = some (.string r) := by rw [Lib.cell_of_heap k24]; rfl
      have cx0 : w4.cell? ⟨wr.heap.size, 1, none⟩ = some (.int .i64 x.k) := by rw [Lib.cell_of_heap h4]; rfl
      have cx1 : w4.cell? ⟨wr.heap.size, 2, none⟩ = some (.bool x.b) := by rw [Lib.cell_of_heap h4]; rfl
      have cx2 : w4.cell? ⟨wr.heap.size, 3, none⟩ = some (.int .i64 x.n) := by rw [Lib.cell_of_heap h4]; rfl
      have cx3 : w4.cell? ⟨wr.heap.size, 4, none⟩ = some (.string x.s) := by rw [Lib.cell_of_heap h4]; rfl
      have cx4 : w4.cell? ⟨wr.heap.size, 5, none⟩ = some (.string x.t) := by rw [Lib.cell_of_heap h4]; rfl
      have cx5 : w4.cell? ⟨wr.heap.size, 6, none⟩ = some (.string x.i) := by rw [Lib.cell_of_heap h4]; rfl
      have cx6 : w4.cell? ⟨wr.heap.size, 7, none⟩ = some (.slice x.lo x.ll x.lc) := by rw [Lib.cell_of_heap h4]; rfl
      go_wp2_with fail
      refine C.mono ?_
      clear C cs0 cs1 cn0 cn1 cn2 cx0 cx1 cx2 cx3 cx4 cx5 cx6
      rintro e9 w5 ⟨rfl, b5⟩
      have b6 := blw1 w5 (.cells #[.int .i64 xk, .int .i64 xo, .string xn] 46)
      have h6 := alloc_heap w5 (.cells #[.int .i64 xk, .int .i64 xo, .string xn] 46)
      have B6 := b5.trans (b6.mono b5.size)
      have bw6 := bw4.trans (B6.mono bw4.size)
      have b06 := b04.trans (B6.mono b04.size)
      go_upto_region 5 with fail
      generalize w5.alloc _ = w6 at *
      have t0 : w6.cell? ⟨w5.heap.size, 0, none⟩ = some (.int .i64 xk) := by rw [Lib.cell_of_heap h6]; rfl
      by_cases hxe : xe = 0
      · subst hxe
        by_cases hxk : xk = 1
        · subst hxk
          have HD2 := hide (show RR = condE s p r (cs.drop (j + 1)) from by rw [unhide HD, if_pos rfl, if_pos rfl])
          clear HD
          go_wp2
          go_roundw
          case rel => exact ⟨j + 1, by go_num, by omega, bw6, unhide HD2⟩
          case measure =>
            simp only [intOf]
            omega
        · have gk : (xk == 1) = false := by simpa using hxk
          have HD2 := hide (show RR = 16 from by rw [unhide HD, if_pos rfl, if_neg hxk])
          clear HD
          go_wp2
          go_ret
          exact ⟨by rw [unhide HD2]; rfl, b06⟩
      · have ge : (xe == 0) = false := by simpa using hxe
        have HD2 := hide (show RR = xe from by rw [unhide HD, if_neg hxe])
        clear HD
        go_wp2
        go_ret
        exact ⟨by rw [unhide HD2]; rfl, b06⟩
    · have i1 : ¬ (j : Int) < (cl : Int) := by omega
      have HD2 := hide (show RR = 0 from by
        rw [unhide Hty, List.drop_eq_nil_of_le (by have := unhide HL; omega)]
        rfl)
      go_wp2
      go_ret
      exact ⟨by rw [unhide HD2]; rfl, b0r⟩
theorem rowS3_get {w wr : World} {ao : Option Addr} {l : List S3} (h : RowG w ao 3 (l.map S3.cells)) (hbw : Below w.heap.size w wr) {j : Nat} (hj : j < l.length) : ∃ b off, ao = some ⟨b, off, none⟩ ∧ b < w.heap.size ∧ wr.cell? ⟨b, off + j * 3, none⟩ = some (.int .i64 l[j].k) ∧ wr.cell? ⟨b, off + j * 3 + 1, none⟩ = some (.string l[j].t) ∧ wr.cell? ⟨b, off + j * 3 + 2, none⟩ = some (.string l[j].i) := by
  obtain ⟨b, off, e, hb, hc⟩ := rowG_at h hbw hj
  exact ⟨b, off, e, hb, hc 0 _ rfl, hc 1 _ rfl, hc 2 _ rfl⟩
theorem rowV3_get {w wr : World} {ao : Option Addr} {l : List V3} (h : RowV3 w ao l) (hbw : Below w.heap.size w wr) {j : Nat} (hj : j < l.length) : ∃ b off, ao = some ⟨b, off, none⟩ ∧ b < w.heap.size ∧ wr.cell? ⟨b, off + j * 3, none⟩ = some (.string l[j].p) ∧ wr.cell? ⟨b, off + j * 3 + 1, none⟩ = some (.string l[j].a) ∧ wr.cell? ⟨b, off + j * 3 + 2, none⟩ = some (.string l[j].r) := by
  obtain ⟨b, off, e, hb, hc⟩ := rowG_at h hbw hj
  exact ⟨b, off, e, hb, hc 0 _ rfl, hc 1 _ rfl, hc 2 _ rfl⟩
set_option maxHeartbeats 8000000 in
set_option maxRecDepth 1000000 in
theorem yCheck_any (s : SP) (v : Value) (fb : Bool) (pk : Int) (pt pi : ByteArray) (ak : Int) (at_ ai : ByteArray) (rk : Int) (rt ri : ByteArray) (co : Option Addr) (cl cc : Nat) (cs : List (Bool × Ex)) (w : World) (hcl : cl = cs.length) (hlen : cs.length ≤ 100000) (hmild : mildC cs) (hsm : SmS s) (hac : s.ac.length ≤ 100000) (hsa : ∀ a ∈ s.ac, a.pr.length ≤ 100000 ∧ a.re.length ≤ 100000) (hT : (envsP (⟨pk, pt, ak, at_, ai, rk, rt⟩ : Q7) s).length ≤ 1000000) (hs : IsS w v s) (hcs : IsCs w co cs) :
    Calls Try.prog 10 #[v, .agg #[.bool fb, .int .i64 pk, .string pt, .string pi, .int .i64 ak, .string at_, .string ai, .int .i64 rk, .string rt, .string ri, .slice co cl cc]] w fun e w' => e = .returned (.int .i64 (checkP s (⟨pk, pt, ak, at_, ai, rk, rt⟩ : Q7) [⟨pk, pt, pi⟩, ⟨ak, at_, ai⟩, ⟨rk, rt, ri⟩] cs)) ∧ Below w.heap.size w w' := by
  obtain ⟨ko, kc, ao, acp, rfl, _, _⟩ := hs.ex
  obtain ⟨bX, zX, k1, k2⟩ := alloc2 w (.cells #[.slice ko s.ks.length kc, .slice ao s.ac.length acp] 28) (.cells #[.bool fb, .int .i64 pk, .string pt, .string pi, .int .i64 ak, .string at_, .string ai, .int .i64 rk, .string rt, .string ri, .slice co cl cc] 59)
  have HS := hide hs
  have HC := hide hcs
  have CEn := fun w' (hb : Below w.heap.size w w') => yEnvs_any s _ fb pk pt pi ak at_ ai rk rt ri co cl cc w' hac hsa hT (hs.below hb)
  have CCo := fun (E : V3) w' (hb : Below w.heap.size w w') => checkConds_any s _ E.p E.a E.r cs co cc cl w' hcl hlen hmild hsm (hs.below hb) (hcs.lift hb)
  have CN := fun (t i : ByteArray) w' (hb : Below w.heap.size w w') => isNamed_any s _ t i w' hsm (hs.below hb)
  obtain ⟨EN, hEN⟩ : ∃ EN, EN = envsP (⟨pk, pt, ak, at_, ai, rk, rt⟩ : Q7) s := ⟨_, rfl⟩
  obtain ⟨RR, hRR⟩ : ∃ RR, RR = checkP s (⟨pk, pt, ak, at_, ai, rk, rt⟩ : Q7) [⟨pk, pt, pi⟩, ⟨ak, at_, ai⟩, ⟨rk, rt, ri⟩] cs := ⟨_, rfl⟩
  have HR := hide (show RR = if badS s [⟨pk, pt, pi⟩, ⟨ak, at_, ai⟩, ⟨rk, rt, ri⟩] then 15 else if EN = [] then 2 else envE s cs EN from by rw [hRR, hEN]; rfl)
  rw [← hEN] at CEn hT
  rw [← hRR]
  obtain ⟨ne, hne⟩ : ∃ ne : Nat, ne = EN.length := ⟨_, rfl⟩
  have Hne := hide hne
  have hne6 : ne ≤ 1000000 := by rw [hne]; exact hT
  unfold EnvsPost at CEn
  rw [← hne] at CEn
  clear hs hcs hmild hcl hlen hRR hEN zX hac hsa hT hne
  go_enter Try.func10, Try.ntmps10
  go_upto_region 1 with fail
  generalize (w.alloc _).alloc _ = w1 at *
  have cp1 : w1.cell? ⟨w.heap.size + 1, 1, none⟩ = some (.int .i64 pk) := by rw [Lib.cell_of_heap k2]; rfl
  have cp2 : w1.cell? ⟨w.heap.size + 1, 2, none⟩ = some (.string pt) := by rw [Lib.cell_of_heap k2]; rfl
  have cp3 : w1.cell? ⟨w.heap.size + 1, 3, none⟩ = some (.string pi) := by rw [Lib.cell_of_heap k2]; rfl
  have cp4 : w1.cell? ⟨w.heap.size + 1, 4, none⟩ = some (.int .i64 ak) := by rw [Lib.cell_of_heap k2]; rfl
  have cp5 : w1.cell? ⟨w.heap.size + 1, 5, none⟩ = some (.string at_) := by rw [Lib.cell_of_heap k2]; rfl
  have cp6 : w1.cell? ⟨w.heap.size + 1, 6, none⟩ = some (.string ai) := by rw [Lib.cell_of_heap k2]; rfl
  have cp7 : w1.cell? ⟨w.heap.size + 1, 7, none⟩ = some (.int .i64 rk) := by rw [Lib.cell_of_heap k2]; rfl
  have cp8 : w1.cell? ⟨w.heap.size + 1, 8, none⟩ = some (.string rt) := by rw [Lib.cell_of_heap k2]; rfl
  have cp9 : w1.cell? ⟨w.heap.size + 1, 9, none⟩ = some (.string ri) := by rw [Lib.cell_of_heap k2]; rfl
  have b2 := blw1 w1 (.cells #[.int .i64 pk, .string pt, .string pi, .int .i64 ak, .string at_, .string ai, .int .i64 rk, .string rt, .string ri] 56)
  have h2 := alloc_heap w1 (.cells #[.int .i64 pk, .string pt, .string pi, .int .i64 ak, .string at_, .string ai, .int .i64 rk, .string rt, .string ri] 56)
  have hrow : RowG (w1.alloc (.cells #[.int .i64 pk, .string pt, .string pi, .int .i64 ak, .string at_, .string ai, .int .i64 rk, .string rt, .string ri] 56)) (some ⟨w1.heap.size, 0, none⟩) 3 (([⟨pk, pt, pi⟩, ⟨ak, at_, ai⟩, ⟨rk, rt, ri⟩] : List S3).map S3.cells) := rowG_block _ h2 rfl (fun c hc => by
    obtain ⟨q, _, rfl⟩ := List.mem_map.1 hc
    rfl)
  go_upto_region 2 with fail
  generalize w1.alloc _ = w2 at *
  clear cp1 cp2 cp3 cp4 cp5 cp6 cp7 cp8 cp9
  have HRow := hide hrow
  have k12 := kept_of_below b2 k1
  have k22 := kept_of_below b2 k2
  have b02 := bX.trans (b2.mono bX.size)
  obtain ⟨scs, hscs⟩ : ∃ scs : List S3, scs = [⟨pk, pt, pi⟩, ⟨ak, at_, ai⟩, ⟨rk, rt, ri⟩] := ⟨_, rfl⟩
  have hl3 : scs.length = 3 := by rw [hscs]; rfl
  rw [← hscs] at HRow HR
  have HB := hide (show badS s scs = badS s (scs.drop 0) from rfl)
  clear hrow hscs h2
  go_wp2_with fail
  go_loopw [19] (fun iv wr => ∃ j : Nat, iv = .int .i64 j ∧ j ≤ 3 ∧ Below w2.heap.size w2 wr ∧ badS s scs = badS s (scs.drop j)) (fun iv _ => 3 - (intOf iv).toNat)
  case atStart => exact ⟨0, by go_num, Nat.zero_le _, Below.refl _ _, unhide HB⟩
  case round =>
    obtain ⟨j, rfl, hjl, hbw, hty⟩ := hrel
    have Hty := hide hty
    clear hty
    have b0r := b02.trans (hbw.mono b02.size)
    by_cases hlt : j < 3
    · have i0 : (0 : Int) ≤ (j : Int) := by omega
      have i1 : (j : Int) < 3 := by omega
      have hlt' : j < scs.length := by omega
      obtain ⟨g, off, eg, hg, a0, a1, a2⟩ := rowS3_get (unhide HRow) hbw hlt'
      cases eg
      simp only [Nat.zero_add] at a0 a1 a2
      have HD := hide (show badS s scs = ((!decide (scs[j].k = 0) && !namedB s scs[j].t scs[j].i) || badS s (scs.drop (j + 1))) from by
        rw [unhide Hty, List.drop_eq_getElem_cons hlt']
        rfl)
      obtain ⟨c, hc⟩ : ∃ c, c = scs[j] := ⟨_, rfl⟩
      rw [← hc] at a0 a1 a2 HD
      have b4 := blw1 wr (.cells #[.int .i64 c.k, .string c.t, .string c.i] 56)
      have h4 := alloc_heap wr (.cells #[.int .i64 c.k, .string c.t, .string c.i] 56)
      have bw4 := hbw.trans (b4.mono hbw.size)
      have b04 := b0r.trans (b4.mono b0r.size)
      have k14 := kept_of_below bw4 k12
      clear hc hlt' Hty
      go_upto_region 4 with fail
      generalize wr.alloc _ = w4 at *
      clear a0 a1 a2
      have cs0 : w4.cell? ⟨w.heap.size, 0, none⟩ = some (.slice ko s.ks.length kc) := by rw [Lib.cell_of_heap k14]; rfl
      have cs1 : w4.cell? ⟨w.heap.size, 1, none⟩ = some (.slice ao s.ac.length acp) := by rw [Lib.cell_of_heap k14]; rfl
      have cc0 : w4.cell? ⟨wr.heap.size, 0, none⟩ = some (.int .i64 c.k) := by rw [Lib.cell_of_heap h4]; rfl
      have cc1 : w4.cell? ⟨wr.heap.size, 1, none⟩ = some (.string c.t) := by rw [Lib.cell_of_heap h4]; rfl
      have cc2 : w4.cell? ⟨wr.heap.size, 2, none⟩ = some (.string c.i) := by rw [Lib.cell_of_heap h4]; rfl
      by_cases h0 : c.k = 0
      · have HD2 := hide (show badS s scs = badS s (scs.drop (j + 1)) from by rw [unhide HD, decide_eq_true h0]; rfl)
        rw [h0] at cc0
        clear HD h0
        go_wp2
        go_roundw
        case rel => exact ⟨j + 1, by go_num, by omega, bw4, unhide HD2⟩
        case measure =>
          simp only [intOf]
          omega
      · have g0 : (c.k == 0) = false := by simpa using h0
        have g1 : (c.k != 0) = true := by simpa using h0
        have HD2 := hide (show badS s scs = (!namedB s c.t c.i || badS s (scs.drop (j + 1))) from by rw [unhide HD, decide_eq_false h0]; rfl)
        have C := CN c.t c.i w4 b04
        generalize namedB s c.t c.i = z at *
        clear HD
        go_wp2_with fail
        refine C.mono ?_
        clear C cs0 cs1 cc0 cc1 cc2
        rintro e9 w5 ⟨rfl, b5⟩
        have bw5 := bw4.trans (b5.mono bw4.size)
        have b05 := b04.trans (b5.mono b04.size)
        cases z
        · have HE := hide (show RR = 15 from by rw [unhide HR, unhide HD2]; rfl)
          go_wp2
          go_ret
          exact ⟨by rw [unhide HE]; rfl, b05⟩
        · have HD3 := hide (show badS s scs = badS s (scs.drop (j + 1)) from unhide HD2)
          go_wp2
          go_roundw
          case rel => exact ⟨j + 1, by go_num, by omega, bw5, unhide HD3⟩
          case measure =>
            simp only [intOf]
            omega
    · have i1 : ¬ (j : Int) < 3 := by omega
      have HT := hide (show badS s scs = false from by
        rw [unhide Hty, List.drop_eq_nil_of_le (by omega)]
        rfl)
      have hbad := unhide HT
      have bA := hbw
      obtain ⟨wA, hwA⟩ : ∃ q, q = wr := ⟨_, rfl⟩
      subst hwA
      have HR2 := hide (show RR = if EN = [] then 2 else envE s cs EN from by rw [unhide HR, hbad]; rfl)
      clear HR hbad
      have b0A := b02.trans (bA.mono b02.size)
      have k1A := kept_of_below bA k12
      have k2A := kept_of_below bA k22
      have cs0 : wA.cell? ⟨w.heap.size, 0, none⟩ = some (.slice ko s.ks.length kc) := by rw [Lib.cell_of_heap k1A]; rfl
      have cs1 : wA.cell? ⟨w.heap.size, 1, none⟩ = some (.slice ao s.ac.length acp) := by rw [Lib.cell_of_heap k1A]; rfl
      have cp0 : wA.cell? ⟨w.heap.size + 1, 0, none⟩ = some (.bool fb) := by rw [Lib.cell_of_heap k2A]; rfl
      have cp1 : wA.cell? ⟨w.heap.size + 1, 1, none⟩ = some (.int .i64 pk) := by rw [Lib.cell_of_heap k2A]; rfl
      have cp2 : wA.cell? ⟨w.heap.size + 1, 2, none⟩ = some (.string pt) := by rw [Lib.cell_of_heap k2A]; rfl
      have cp3 : wA.cell? ⟨w.heap.size + 1, 3, none⟩ = some (.string pi) := by rw [Lib.cell_of_heap k2A]; rfl
      have cp4 : wA.cell? ⟨w.heap.size + 1, 4, none⟩ = some (.int .i64 ak) := by rw [Lib.cell_of_heap k2A]; rfl
      have cp5 : wA.cell? ⟨w.heap.size + 1, 5, none⟩ = some (.string at_) := by rw [Lib.cell_of_heap k2A]; rfl
      have cp6 : wA.cell? ⟨w.heap.size + 1, 6, none⟩ = some (.string ai) := by rw [Lib.cell_of_heap k2A]; rfl
      have cp7 : wA.cell? ⟨w.heap.size + 1, 7, none⟩ = some (.int .i64 rk) := by rw [Lib.cell_of_heap k2A]; rfl
      have cp8 : wA.cell? ⟨w.heap.size + 1, 8, none⟩ = some (.string rt) := by rw [Lib.cell_of_heap k2A]; rfl
      have cp9 : wA.cell? ⟨w.heap.size + 1, 9, none⟩ = some (.string ri) := by rw [Lib.cell_of_heap k2A]; rfl
      have cp10 : wA.cell? ⟨w.heap.size + 1, 10, none⟩ = some (.slice co cl cc) := by rw [Lib.cell_of_heap k2A]; rfl
      have C := CEn wA b0A
      go_wp2_with fail
      refine C.mono ?_
      clear C cs0 cs1 cp0 cp1 cp2 cp3 cp4 cp5 cp6 cp7 cp8 cp9 cp10
      rintro e9 w3 ⟨b3, lo, cap, rfl, hrowE⟩
      have HRE := hide hrowE
      have b03 := b0A.trans (b3.mono b0A.size)
      have k13 := kept_of_below b3 k1A
      have k23 := kept_of_below b3 k2A
      clear hrowE
      by_cases hn0 : ne = 0
      · subst hn0
        have HE := hide (show RR = 2 from by
          have h := unhide Hne
          have : EN = [] := List.eq_nil_of_length_eq_zero h.symm
          rw [unhide HR2, if_pos this])
        go_wp2
        go_ret
        exact ⟨by rw [unhide HE]; rfl, b03⟩
      · have gn : ((ne : Int) == 0) = false := by
          have : ¬ (ne : Int) = 0 := by omega
          simpa using this
        have HR3 := hide (show RR = envE s cs (EN.drop 0) from by
          rw [unhide HR2, if_neg]
          · rfl
          · intro h
            have h2 := unhide Hne
            rw [h] at h2
            exact hn0 h2)
        clear HR2
        go_wp2_with fail
        go_loopw [42] (fun iv wr => ∃ j : Nat, iv = .int .i64 j ∧ j ≤ ne ∧ Below w3.heap.size w3 wr ∧ RR = envE s cs (EN.drop j)) (fun iv _ => ne - (intOf iv).toNat)
        case atStart => exact ⟨0, by go_num, Nat.zero_le _, Below.refl _ _, unhide HR3⟩
        case round =>
          obtain ⟨j, rfl, hjl, hbw, hty⟩ := hrel
          have Hty := hide hty
          clear hty
          have b0r := b03.trans (hbw.mono b03.size)
          by_cases hlt : j < ne
          · have i0 : (0 : Int) ≤ (j : Int) := by omega
            have i1 : (j : Int) < (ne : Int) := by omega
            have hlt' : j < EN.length := by rw [← unhide Hne]; exact hlt
            obtain ⟨g, off, rfl, hg, a0, a1, a2⟩ := rowV3_get (unhide HRE) hbw hlt'
            have HD := hide (show RR = (if condE s EN[j].p EN[j].r cs = 0 then envE s cs (EN.drop (j + 1)) else condE s EN[j].p EN[j].r cs) from by
              rw [unhide Hty, List.drop_eq_getElem_cons hlt']
              rfl)
            obtain ⟨E, hE⟩ : ∃ E, E = EN[j] := ⟨_, rfl⟩
            rw [← hE] at a0 a1 a2 HD
            have b4 := blw1 wr (.cells #[.string E.p, .string E.a, .string E.r] 39)
            have h4 := alloc_heap wr (.cells #[.string E.p, .string E.a, .string E.r] 39)
            have bw4 := hbw.trans (b4.mono hbw.size)
            have b04 := b0r.trans (b4.mono b0r.size)
            have k14 := kept_of_below bw4 k13
            have k24 := kept_of_below bw4 k23
            have C := CCo E _ b04
            generalize condE s E.p E.r cs = z at *
            clear hE hlt' Hty
            go_upto_region 13 with fail
            generalize wr.alloc _ = w4 at *
            clear a0 a1 a2
            have cs0 : w4.cell? ⟨w.heap.size, 0, none⟩ = some (.slice ko s.ks.length kc) := by rw [Lib.cell_of_heap k14]; rfl
            have cs1 : w4.cell? ⟨w.heap.size, 1, none⟩ = some (.slice ao s.ac.length acp) := by rw [Lib.cell_of_heap k14]; rfl
            have ce0 : w4.cell? ⟨wr.heap.size, 0, none⟩ = some (.string E.p) := by rw [Lib.cell_of_heap h4]; rfl
            have ce1 : w4.cell? ⟨wr.heap.size, 1, none⟩ = some (.string E.a) := by rw [Lib.cell_of_heap h4]; rfl
            have ce2 : w4.cell? ⟨wr.heap.size, 2, none⟩ = some (.string E.r) := by rw [Lib.cell_of_heap h4]; rfl
            have cp10 : w4.cell? ⟨w.heap.size + 1, 10, none⟩ = some (.slice co cl cc) := by rw [Lib.cell_of_heap k24]; rfl
            go_wp2_with fail
            refine C.mono ?_
            clear C cs0 cs1 ce0 ce1 ce2 cp10
            rintro e9 w5 ⟨rfl, b5⟩
            have bw5 := bw4.trans (b5.mono bw4.size)
            have b05 := b04.trans (b5.mono b04.size)
            by_cases hz : z = 0
            · subst hz
              have HD2 := hide ((unhide HD).trans (if_pos rfl))
              clear HD
              go_wp2
              go_roundw
              case rel => exact ⟨j + 1, by go_num, by omega, bw5, unhide HD2⟩
              case measure =>
                simp only [intOf]
                omega
            · have gz : (z == 0) = false := by simpa using hz
              have HD2 := hide ((unhide HD).trans (if_neg hz))
              clear HD
              go_wp2
              go_ret
              exact ⟨by rw [unhide HD2]; rfl, b05⟩
          · have i1 : ¬ (j : Int) < (ne : Int) := by omega
            have HE := hide (show RR = 0 from by
              rw [unhide Hty, List.drop_eq_nil_of_le (by have := unhide Hne; omega)]
              rfl)
            go_wp2
            go_ret
            exact ⟨by rw [unhide HE]; rfl, b0r⟩
end Go.Proofs.Ytjajhmojcmfidab
