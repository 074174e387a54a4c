/-
 chancelref11.own and Of: what they return.
 chancellaw11.of: what it returns; the trees that the law makes are such as may be.
-/
import Derived.Test.YtagnbpobcijakaaTyVB
import Derived.Test.YtagnbpobcijakaaTyVF
import Derived.Test.YtagnbpobcijakaaTyEG
import Derived.Test.YtagnbpobcijakaaTyRK
import Derived.Test.YtagnbpobcijakaaRwMT
namespace Go.Proofs.Ytagnbpobcijakaa
open Go.RowKit Go.Sort

/-- How many kids an operation has that is no set. -/
def wantN (k : Int) : Nat := if 1 ≤ k ∧ k ≤ 5 then 0 else if k = 7 ∨ k = 8 ∨ k = 10 ∨ k = 11 ∨ k = 12 then 1 else if k = 25 then 3 else 2
mutual
/-- A tree such as may be: each operation has its kids, a variable is one of the three. -/
def okT : Ex → Prop
 | .mk k _ _ s _ _ l => (1 ≤ k ∧ k ≤ 25) ∧ (k ≠ 6 → l.length = wantN k) ∧ (k = 5 → ba s = sPrin ∨ ba s = sActn ∨ ba s = sRes) ∧ okTs l
def okTs : List Ex → Prop
 | [] => True
 | x :: l => okT x ∧ okTs l
end
theorem okTs_get : ∀ (l : List Ex) (j : Nat) (h : j < l.length), okTs l → okT l[j]
 | [], j, h, _ => by simp at h
 | e :: l, 0, _, h => by
  unfold okTs at h
  exact h.1
 | e :: l, j + 1, hj, h => by
  unfold okTs at h
  exact okTs_get l j (by simpa using hj) h.2
theorem okTs_of : ∀ (l : List Ex), (∀ x ∈ l, okT x) → okTs l
 | [], _ => by unfold okTs; trivial
 | x :: l, h => by
  unfold okTs
  exact ⟨h x (by simp), okTs_of l fun y hy => h y (by simp [hy])⟩
theorem len_two {l : List T3} (h : l.length = 2) : ∃ a b, l = [a, b] := by
 match l, h with
 | [a, b], _ => exact ⟨a, b, rfl⟩
theorem len_three {l : List T3} (h : l.length = 3) : ∃ a b c, l = [a, b, c] := by
 match l, h with
 | [a, b, c], _ => exact ⟨a, b, c, rfl⟩
theorem rown_any (s : SP) (v : Value) (p r : ByteArray) (k : Int) (eb : Bool) (en : Int) (es et ei : ByteArray) (elo : Option Addr) (ell elc : Nat) (l : List T3) (lo : Option Addr) (cap : Nat) (w : World) (hsm : SmS s) (hna : noneB s.names ⟨#[65, 99, 116, 105, 111, 110]⟩ = true) (hs : IsST w v s) (hk : 6 ≤ k ∧ k ≤ 25) (hn : k ≠ 6 → l.length = wantN k) (hl : l.length ≤ 281474976710656) (hr : RowT3 w lo l) : Calls Try.prog 43 #[v, .agg #[.int .i64 k, .bool eb, .int .i64 en, .string es, .string et, .string ei, .slice elo ell elc], .slice lo l.length cap] w fun e w' => e = .returned (nodeT s p r k es et ei l).ret ∧ Below w.heap.size w w' := by
 have hc : k = 6 ∨ k = 7 ∨ k = 8 ∨ k = 9 ∨ k = 10 ∨ k = 11 ∨ k = 12 ∨ k = 13 ∨ k = 14 ∨ k = 15 ∨ k = 16 ∨ k = 17 ∨ k = 18 ∨ k = 19 ∨ k = 20 ∨ k = 21 ∨ k = 22 ∨ k = 23 ∨ k = 24 ∨ k = 25 := by omega
 rcases hc with rfl | rfl | rfl | rfl | rfl | rfl | rfl | rfl | rfl | rfl | rfl | rfl | rfl | rfl | rfl | rfl | rfl | rfl | rfl | rfl
 ·exact rown_6 s v eb en es et ei elo ell elc lo cap w hsm hs l _ rfl hl hr
 ·obtain ⟨⟨ak, aq, an⟩, rfl⟩ := List.length_eq_one_iff.1 (hn (by decide))
  exact rown_7 s v p r eb en es et ei elo ell elc ak aq an lo cap w hsm hs hna hr
 ·obtain ⟨⟨ak, aq, an⟩, rfl⟩ := List.length_eq_one_iff.1 (hn (by decide))
  exact rown_8 s v p r eb en es et ei elo ell elc ak aq an lo cap w hsm hs hr
 ·obtain ⟨⟨ak, aq, an⟩, ⟨bk, bq, bn⟩, rfl⟩ := len_two (hn (by decide))
  exact rown_9 s v p r eb en es et ei elo ell elc ak aq an bk bq bn lo cap w hsm hs hr
 ·obtain ⟨⟨ak, aq, an⟩, rfl⟩ := List.length_eq_one_iff.1 (hn (by decide))
  exact rown_10 s v p r eb en es et ei elo ell elc ak aq an lo cap w hsm hs hr
 ·obtain ⟨⟨ak, aq, an⟩, rfl⟩ := List.length_eq_one_iff.1 (hn (by decide))
  exact rown_11 s v p r eb en es et ei elo ell elc ak aq an lo cap w hsm hs hr
 ·obtain ⟨⟨ak, aq, an⟩, rfl⟩ := List.length_eq_one_iff.1 (hn (by decide))
  exact rown_12 s v p r eb en es et ei elo ell elc ak aq an lo cap w hsm hs hr
 ·obtain ⟨⟨ak, aq, an⟩, ⟨bk, bq, bn⟩, rfl⟩ := len_two (hn (by decide))
  exact rown_13 s v p r eb en es et ei elo ell elc ak aq an bk bq bn lo cap w hsm hs hr
 ·obtain ⟨⟨ak, aq, an⟩, ⟨bk, bq, bn⟩, rfl⟩ := len_two (hn (by decide))
  exact rown_14 s v p r eb en es et ei elo ell elc ak aq an bk bq bn lo cap w hsm hs hr
 ·obtain ⟨⟨ak, aq, an⟩, ⟨bk, bq, bn⟩, rfl⟩ := len_two (hn (by decide))
  exact rown_15 s v p r eb en es et ei elo ell elc ak aq an bk bq bn lo cap w hsm hs hr
 ·obtain ⟨⟨ak, aq, an⟩, ⟨bk, bq, bn⟩, rfl⟩ := len_two (hn (by decide))
  exact rown_16 s v p r eb en es et ei elo ell elc ak aq an bk bq bn lo cap w hsm hs hr
 ·obtain ⟨⟨ak, aq, an⟩, ⟨bk, bq, bn⟩, rfl⟩ := len_two (hn (by decide))
  exact rown_17 s v p r eb en es et ei elo ell elc ak aq an bk bq bn lo cap w hsm hs hr
 ·obtain ⟨⟨ak, aq, an⟩, ⟨bk, bq, bn⟩, rfl⟩ := len_two (hn (by decide))
  exact rown_18 s v p r eb en es et ei elo ell elc ak aq an bk bq bn lo cap w hsm hs hr
 ·obtain ⟨⟨ak, aq, an⟩, ⟨bk, bq, bn⟩, rfl⟩ := len_two (hn (by decide))
  exact rown_19 s v p r eb en es et ei elo ell elc ak aq an bk bq bn lo cap w hsm hs hr
 ·obtain ⟨⟨ak, aq, an⟩, ⟨bk, bq, bn⟩, rfl⟩ := len_two (hn (by decide))
  exact rown_20 s v p r eb en es et ei elo ell elc ak aq an bk bq bn lo cap w hsm hs hr
 ·obtain ⟨⟨ak, aq, an⟩, ⟨bk, bq, bn⟩, rfl⟩ := len_two (hn (by decide))
  exact rown_21 s v p r eb en es et ei elo ell elc ak aq an bk bq bn lo cap w hsm hs hr
 ·obtain ⟨⟨ak, aq, an⟩, ⟨bk, bq, bn⟩, rfl⟩ := len_two (hn (by decide))
  exact rown_22 s v p r eb en es et ei elo ell elc ak aq an bk bq bn lo cap w hsm hs hr
 ·obtain ⟨⟨ak, aq, an⟩, ⟨bk, bq, bn⟩, rfl⟩ := len_two (hn (by decide))
  exact rown_23 s v p r eb en es et ei elo ell elc ak aq an bk bq bn lo cap w hsm hs hr
 ·obtain ⟨⟨ak, aq, an⟩, ⟨bk, bq, bn⟩, rfl⟩ := len_two (hn (by decide))
  exact rown_24 s v p r eb en es et ei elo ell elc ak aq an bk bq bn lo cap w hsm hs hr
 ·obtain ⟨⟨ak, aq, an⟩, ⟨bk, bq, bn⟩, ⟨ck, cq, cn⟩, rfl⟩ := len_three (hn (by decide))
  exact rown_25 s v p r eb en es et ei elo ell elc ak aq an bk bq bn ck cq cn lo cap w hsm hs hr
theorem rleaf_eq (s : SP) (p r : ByteArray) (k : Int) (sx t i : ByteArray) (hk : 1 ≤ k ∧ k ≤ 5) (hv : k = 5 → sx = sPrin ∨ sx = sActn ∨ sx = sRes) : rleafT s p r k sx t i = leafT s p r k sx t i := by
 have hc : k = 1 ∨ k = 2 ∨ k = 3 ∨ k = 4 ∨ k = 5 := by omega
 rcases hc with rfl | rfl | rfl | rfl | rfl
 ·rfl
 ·rfl
 ·rfl
 ·rfl
 ·show rvarT p r sx = varT p r sx
  unfold rvarT varT
  rcases hv rfl with h | h | h
  ·rw [if_pos h, if_pos h]
  ·rw [if_neg (by rw [h]; decide), if_neg (by rw [h]; decide), if_neg (by rw [h]; decide), if_pos h]
  ·rw [if_neg (by rw [h]; decide), if_pos h, if_neg (by rw [h]; decide), if_neg (by rw [h]; decide), if_pos h]
set_option maxHeartbeats 8000000 in
set_option maxRecDepth 1000000 in
theorem rOf_any (s : SP) (p ac r : ByteArray) (hsm : SmS s) (hna : noneB s.names ⟨#[65, 99, 116, 105, 111, 110]⟩ = true) : ∀ (n : Nat) (e : Ex), depE e ≤ n → slE e = true → okT e → ∀ (v : Value) (q : R7) (w : World), IsST w v s → IsE w (fun _ => True) q e →
  Calls Try.prog 30 #[v, .agg #[.string p, .string ac, .string r], .agg #[.int .i64 q.k, .bool q.b, .int .i64 q.n, .string q.s, .string q.t, .string q.i, .slice q.lo q.ll q.lc]] w fun en w' => en = .returned (typE s p r e).ret ∧ Below w.heap.size w w' := by
 intro n
 induction n with
 | zero =>
  intro e hd
  cases e
  unfold depE at hd
  omega
 | succ n ih =>
  intro e hd hsl hok v q w hs hq
  obtain ⟨k, b, m, sx, t, i, l⟩ := e
  unfold IsE at hq
  obtain ⟨q1, q2, q3, q4, q5, q6, q7, q8⟩ := hq
  obtain ⟨qk, qb, qn, qs, qt, qi, qlo, Ln, qlc⟩ := q
  simp only at q1 q2 q3 q4 q5 q6 q7 q8
  subst q1 q2 q3 q4 q5 q6
  simp only
  rw [slE] at hsl
  simp only [Bool.and_eq_true, decide_eq_true_eq] at hsl
  unfold okT at hok
  obtain ⟨hk, hn, hvr, hkids⟩ := hok
  have hdl : depL l ≤ n := by
   unfold depE at hd
   omega
  have hLb : Ln ≤ 100000 := by rw [q7]; exact hsl.1
  have HE := hide (typE_mk s p r qk qb qn sx t i l)
  have HK := hide q8
  have HL := hide q7
  have HS := hide hs
  have HN0 := hide hn
  have IH := hide (fun (j : Nat) (hj : j < l.length) (x : R7) (w9 w' : World) (hb : Below w9.heap.size w9 w') (hs9 : IsST w9 v s) (hx : IsE w9 (fun _ => True) x l[j]) => ih l[j] (Nat.le_trans (depL_get l j hj) hdl) (slL_get l j hj hsl.2) (okTs_get l j hj hkids) v x w' (hs9.below hb) (hx.lift hb))
  clear ih hd hsl hdl q7 q8 hkids hn
  obtain ⟨ko, kc, ao, acp, rfl, _, _⟩ := hs.ex2
  obtain ⟨bX, zX, k1, k2, k3, k4⟩ := alloc4 w (.cells #[.slice ko s.ks.length kc, .slice ao s.ac.length acp] 33) (.cells #[.string p, .string ac, .string r] 42) (.cells #[.int .i64 qk, .bool qb, .int .i64 qn, .string (ba sx), .string (ba t), .string (ba i), .slice qlo Ln qlc] 39) (.cells #[.int .i64 0, .int .i64 0, .string ⟨#[]⟩] 54)
  obtain ⟨iT, hiT, hzT0, hzT1, hzT2⟩ := info_parts infoT3
  go_enter Try.func30, Try.ntmps30
  go_upto_region 1 with fail
  generalize (((w.alloc _).alloc _).alloc _).alloc _ = w1 at *
  have ce0 : w1.cell? ⟨w.heap.size + 2, 0, none⟩ = some (.int .i64 qk) := lc_ k3 rfl
  by_cases hleaf : qk ≤ 5
  ·have hl0 : l = [] := by
    have h0 := unhide HN0 (by omega)
    rw [show wantN qk = 0 from if_pos ⟨hk.1, hleaf⟩] at h0
    exact List.eq_nil_of_length_eq_zero h0
   have HE := hide (show typE s p r (.mk qk qb qn sx t i l) = rleafT s p r qk (ba sx) (ba t) (ba i) from by
    rw [unhide HE, hl0, rleaf_eq s p r qk _ _ _ ⟨hk.1, hleaf⟩ hvr, typL]
    show nodeT s p r qk (ba sx) (ba t) (ba i) [] = _
    unfold nodeT
    rw [if_neg (by omega)])
   have g1 : (1 : Int) ≤ qk := hk.1
   have C := rleaf_any s _ p ac r qk qb qn (ba sx) (ba t) (ba i) qlo Ln qlc w1 hsm ((unhide HS).is.below bX)
   obtain ⟨X, hX⟩ : ∃ X, X = rleafT s p r qk (ba sx) (ba t) (ba i) := ⟨_, rfl⟩
   rw [← hX] at C HE
   clear hX hvr hs hl0
   obtain ⟨⟨xk, xo, xn⟩, xe⟩ := X
   unfold TR.ret at C
   simp only at C
   obtain ⟨cs0, cs1⟩ := bl2_ k1
   obtain ⟨cn0, cn1, cn2⟩ := bl3_ k2
   obtain ⟨cx0, cx1, cx2, cx3, cx4, cx5, cx6⟩ := bl7_ k3
   go_wp2_with fail
   refine C.mono ?_
   clear C cs0 cs1 cn0 cn1 cn2 cx0 cx1 cx2 cx3 cx4 cx5 cx6
   rintro e9 w5 ⟨rfl, b5⟩
   have k45 := kept_of_below b5 k4
   have b05 := bX.trans (b5.mono bX.size)
   obtain ⟨z0, z1, z2⟩ := bl3_ k45
   have zf : ∀ o, w5.frozen? ⟨w.heap.size + 3, o, none⟩ = false := fun o => Lib.frozen_of_heap k45 o
   have HQ := hide (set3_all (.int .i64 xk) (.int .i64 xo) (.string xn) k45 b05 (Nat.le_add_right _ 3))
   go_wp2
   obtain ⟨q0, q1, q2, qb_⟩ := unhide HQ
   exact bodyPost_ret (v := .tuple #[.agg #[.int .i64 xk, .int .i64 xo, .string xn], .int .i64 xe]) (by simp [results, Try.results30, go_sem, q0, q1, q2]) rfl ⟨by rw [unhide HE]; rfl, qb_⟩
  ·have g1 : (1 : Int) ≤ qk := hk.1
   have ce6 : w1.cell? ⟨w.heap.size + 2, 6, none⟩ = some (.slice qlo Ln qlc) := lc_ k3 rfl
   clear hs hvr
   go_wp2_with fail
   clear ce6 ce0
   go_loopw [8, 9] (fun kv iv wr => ∃ (j : Nat) (ts : List T3), iv = .int .i64 j ∧ j ≤ Ln ∧ ts.length = j ∧ Below w1.heap.size w1 wr ∧ wr.ownsRow w1.heap.size 54 3 kv ts.length (ts.map T3.cells).flatten ∧ typL s p r [] l = typL s p r ts (l.drop j)) (fun _ iv _ => Ln - (intOf iv).toNat)
   case atStart => exact ⟨0, [], by go_num, Nat.zero_le _, rfl, Below.refl _ _, ⟨rfl, .inl ⟨rfl, rfl⟩⟩, rfl⟩
   case round =>
    rename Value => kv
    obtain ⟨j, ts, rfl, hjl, htl, hbw, hown, hty⟩ := hrel
    have Hown := hide hown
    have Hty := hide hty
    have Htl := hide htl
    clear hown hty htl
    have b0r := bX.trans (hbw.mono bX.size)
    have k1r := kept_of_below hbw k1
    have k2r := kept_of_below hbw k2
    have k3r := kept_of_below hbw k3
    have k4r := kept_of_below hbw k4
    have cq6 : wr.cell? ⟨w.heap.size + 2, 6, none⟩ = some (.slice qlo Ln qlc) := lc_ k3r rfl
    by_cases hlt : j < Ln
    ·have i0 : (0 : Int) ≤ (j : Int) := by omega
     have i1 : (j : Int) < (Ln : Int) := by omega
     have hlt' : j < l.length := by rw [← unhide HL]; exact hlt
     obtain ⟨x, g, off, rfl, hg, hat0, hx⟩ := IsEs.get l 0 j hlt' (unhide HK)
     have hat := hat0.below b0r hg
     rw [Nat.zero_add] at hat
     obtain ⟨a0, a1, a2, a3, a4, a5, a6⟩ := hat
     have hgr : g < wr.heap.size := Nat.lt_of_lt_of_le hg b0r.size
     have C := fun w' (hb : Below wr.heap.size wr w') => unhide IH j hlt' x w w' (b0r.trans (hb.mono b0r.size)) (unhide HS) hx
     have HN := hide (And.intro (typL_next s p r ts l j hlt') (typL_err s p r ts l j hlt'))
     obtain ⟨X, hX⟩ : ∃ X, X = typE s p r l[j] := ⟨_, rfl⟩
     rw [← hX] at C HN
     clear hX hat0 hx hlt'
     obtain ⟨⟨xk, xo, xn⟩, xe⟩ := X
     unfold TR.ret at C
     simp only at C HN
     have hFF : ∀ (V : Nat) (w w' : World), Below w.heap.size w w' → w.heap[V]? = some (.cells #[.int .i64 xk, .int .i64 xo, .string xn] 54 (0, 0)) → w'.heap[V]? = some (.cells #[.int .i64 xk, .int .i64 xo, .string xn] 54 (0, 0)) := fun _ _ _ hb h => kept_of_below hb h
     go_upto_region 7 with fail
     clear cq6
     refine wp_specsD (SpS [.eq (.agg #[.slice ko s.ks.length kc, .slice ao s.ac.length acp]), .eq (.agg #[.string p, .string ac, .string r]), .eq (.pointer (some ⟨w.heap.size + 2, 6, none⟩)), .eq (.slice (some ⟨g, off, none⟩) Ln qlc), .eq (.int .i64 j), .eq (.pointer (some ⟨g, off + j * 7, none⟩)), .eq (.agg #[.int .i64 x.k, .bool x.b, .int .i64 x.n, .string x.s, .string x.t, .string x.i, .slice x.lo x.ll x.lc]), .eq (.tuple #[.agg #[.int .i64 xk, .int .i64 xo, .string xn], .int .i64 xe]), .eq (.tuple #[.agg #[.int .i64 xk, .int .i64 xo, .string xn], .int .i64 xe]), .eq (.agg #[.int .i64 xk, .int .i64 xo, .string xn]), .eq (.int .i64 xe), .any, .any, .eq (.int .i64 xe)]) (GM 11 12 10 wr #[.int .i64 0, .int .i64 0, .string ⟨#[]⟩] 54 (fun V w => w.heap[V]? = some (.cells #[.int .i64 xk, .int .i64 xo, .string xn] 54 (0, 0)))) (by kernel_rfl) (by kernel_rfl) (by kernel_rfl) (GM.start _ wr) ?_ ?_ ?_
     ·intro q o d ho hd L a' w' hL hw hRR hdep hslot hsz K hK
      have hqN : q < 14 := dstOf_lt hd
      have hR := hRR.below
      have m1 := kept_of_below hR k1r
      have m2 := kept_of_below hR k2r
      have m3 := kept_of_below hR k3r
      obtain ⟨cs0, cs1⟩ := bl2_ m1
      obtain ⟨cn0, cn1, cn2⟩ := bl3_ m2
      have cq6 : w'.cell? ⟨w.heap.size + 2, 6, none⟩ = some (.slice (some ⟨g, off, none⟩) Ln qlc) := lc_ m3 rfl
      have cx0 := (hR.cell (p := ⟨g, off + j * 7, none⟩) hgr).trans a0
      have cx1 := (hR.cell (p := ⟨g, off + j * 7 + 1, none⟩) hgr).trans a1
      have cx2 := (hR.cell (p := ⟨g, off + j * 7 + 2, none⟩) hgr).trans a2
      have cx3 := (hR.cell (p := ⟨g, off + j * 7 + 3, none⟩) hgr).trans a3
      have cx4 := (hR.cell (p := ⟨g, off + j * 7 + 4, none⟩) hgr).trans a4
      have cx5 := (hR.cell (p := ⟨g, off + j * 7 + 5, none⟩) hgr).trans a5
      have cx6 := (hR.cell (p := ⟨g, off + j * 7 + 6, none⟩) hgr).trans a6
      clear m1 m2 m3
      have hs3 : a'.tmps.getD 3 undef = .pointer (some ⟨w.heap.size, 0, none⟩) := hslot 3 (fun q h => by have hl := dstOf_lt h; match q, hl with | 0, _ => cases h | 1, _ => cases h | 2, _ => cases h | 3, _ => cases h | 4, _ => cases h | 5, _ => cases h | 6, _ => cases h | 7, _ => cases h | 8, _ => cases h | 9, _ => cases h | 10, _ => cases h | 11, _ => cases h | 12, _ => cases h | 13, _ => cases h)
      have hs4 : a'.tmps.getD 4 undef = .pointer (some ⟨w.heap.size + 1, 0, none⟩) := hslot 4 (fun q h => by have hl := dstOf_lt h; match q, hl with | 0, _ => cases h | 1, _ => cases h | 2, _ => cases h | 3, _ => cases h | 4, _ => cases h | 5, _ => cases h | 6, _ => cases h | 7, _ => cases h | 8, _ => cases h | 9, _ => cases h | 10, _ => cases h | 11, _ => cases h | 12, _ => cases h | 13, _ => cases h)
      have hs5 : a'.tmps.getD 5 undef = .pointer (some ⟨w.heap.size + 2, 0, none⟩) := hslot 5 (fun q h => by have hl := dstOf_lt h; match q, hl with | 0, _ => cases h | 1, _ => cases h | 2, _ => cases h | 3, _ => cases h | 4, _ => cases h | 5, _ => cases h | 6, _ => cases h | 7, _ => cases h | 8, _ => cases h | 9, _ => cases h | 10, _ => cases h | 11, _ => cases h | 12, _ => cases h | 13, _ => cases h)
      have hs9 : a'.tmps.getD 9 undef = .int .i64 j := hslot 9 (fun q h => by have hl := dstOf_lt h; match q, hl with | 0, _ => cases h | 1, _ => cases h | 2, _ => cases h | 3, _ => cases h | 4, _ => cases h | 5, _ => cases h | 6, _ => cases h | 7, _ => cases h | 8, _ => cases h | 9, _ => cases h | 10, _ => cases h | 11, _ => cases h | 12, _ => cases h | 13, _ => cases h)
      have hc : q = 0 ∨ q = 1 ∨ q = 2 ∨ q = 3 ∨ q = 4 ∨ q = 5 ∨ q = 6 ∨ q = 7 ∨ q = 8 ∨ q = 9 ∨ q = 10 ∨ q = 11 ∨ q = 12 ∨ q = 13 := by omega
      rcases hc with rfl | rfl | rfl | rfl | rfl | rfl | rfl | rfl | rfl | rfl | rfl | rfl | rfl | rfl
      ·cases ho
       cases hd
       have e0 := hs3
       clear cn0 cn1 cn2 cq6 cx0 cx1 cx2 cx3 cx4 cx5 cx6
       unfold Oper.wp
       go_simp
       exact hK _ _ rfl (GM.step hFF hRR (Below.refl _ _) 0 34 _ (by decide) (by decide) (by decide)) (fun _ _ h => h)
      ·cases ho
       cases hd
       have e0 := hs4
       clear cs0 cs1 cq6 cx0 cx1 cx2 cx3 cx4 cx5 cx6
       unfold Oper.wp
       go_simp
       exact hK _ _ rfl (GM.step hFF hRR (Below.refl _ _) 1 35 _ (by decide) (by decide) (by decide)) (fun _ _ h => h)
      ·cases ho
       cases hd
       have e0 := hs5
       clear cs0 cs1 cn0 cn1 cn2 cq6 cx0 cx1 cx2 cx3 cx4 cx5 cx6
       unfold Oper.wp
       go_simp
       exact hK _ _ rfl (GM.step hFF hRR (Below.refl _ _) 2 36 _ (by decide) (by decide) (by decide)) (fun _ _ h => h)
      ·cases ho
       cases hd
       have e0 : a'.tmps.getD 36 undef = .pointer (some ⟨w.heap.size + 2, 6, none⟩) := hdep 2 36 rfl (by kernel_rfl)
       have e0' := gd_ e0
       clear cs0 cs1 cn0 cn1 cn2 cx0 cx1 cx2 cx3 cx4 cx5 cx6
       unfold Oper.wp
       go_simp
       exact hK _ _ rfl (GM.step hFF hRR (Below.refl _ _) 3 37 _ (by decide) (by decide) (by decide)) (fun _ _ h => h)
      ·cases ho
       cases hd
       have e0 := hs9
       clear cs0 cs1 cn0 cn1 cn2 cq6 cx0 cx1 cx2 cx3 cx4 cx5 cx6
       unfold Oper.wp
       go_simp
       exact hK _ _ rfl (GM.step hFF hRR (Below.refl _ _) 4 38 _ (by decide) (by decide) (by decide)) (fun _ _ h => h)
      ·cases ho
       cases hd
       have e0 : a'.tmps.getD 37 undef = .slice (some ⟨g, off, none⟩) Ln qlc := hdep 3 37 rfl (by kernel_rfl)
       have e0' := gd_ e0
       have e1 : a'.tmps.getD 38 undef = .int .i64 j := hdep 4 38 rfl (by kernel_rfl)
       have e1' := gd_ e1
       clear cs0 cs1 cn0 cn1 cn2 cq6 cx0 cx1 cx2 cx3 cx4 cx5 cx6
       unfold Oper.wp
       go_simp
       exact hK _ _ rfl (GM.step hFF hRR (Below.refl _ _) 5 39 _ (by decide) (by decide) (by decide)) (fun _ _ h => h)
      ·cases ho
       cases hd
       have e0 : a'.tmps.getD 39 undef = .pointer (some ⟨g, off + j * 7, none⟩) := hdep 5 39 rfl (by kernel_rfl)
       have e0' := gd_ e0
       clear cs0 cs1 cn0 cn1 cn2 cq6
       unfold Oper.wp
       go_simp
       exact hK _ _ rfl (GM.step hFF hRR (Below.refl _ _) 6 40 _ (by decide) (by decide) (by decide)) (fun _ _ h => h)
      ·cases ho
       cases hd
       have e0 : a'.tmps.getD 34 undef = .agg #[.slice ko s.ks.length kc, .slice ao s.ac.length acp] := hdep 0 34 rfl (by kernel_rfl)
       have e0' := gd_ e0
       have e1 : a'.tmps.getD 35 undef = .agg #[.string p, .string ac, .string r] := hdep 1 35 rfl (by kernel_rfl)
       have e1' := gd_ e1
       have e2 : a'.tmps.getD 40 undef = .agg #[.int .i64 x.k, .bool x.b, .int .i64 x.n, .string x.s, .string x.t, .string x.i, .slice x.lo x.ll x.lc] := hdep 6 40 rfl (by kernel_rfl)
       have e2' := gd_ e2
       clear cs0 cs1 cn0 cn1 cn2 cq6 cx0 cx1 cx2 cx3 cx4 cx5 cx6
       unfold Oper.wp
       go_simp
       refine (C w' hR).mono ?_
       rintro e w9 ⟨rfl, b9⟩
       exact hK _ _ rfl (GM.step hFF hRR b9 7 41 _ (by decide) (by decide) (by decide)) (SpS.up b9)
      ·cases ho
       cases hd
       have e0 : a'.tmps.getD 41 undef = .tuple #[.agg #[.int .i64 xk, .int .i64 xo, .string xn], .int .i64 xe] := hdep 7 41 rfl (by kernel_rfl)
       have e0' := gd_ e0
       clear cs0 cs1 cn0 cn1 cn2 cq6 cx0 cx1 cx2 cx3 cx4 cx5 cx6
       unfold Oper.wp
       go_simp
       exact hK _ _ rfl (GM.step hFF hRR (Below.refl _ _) 8 33 _ (by decide) (by decide) (by decide)) (fun _ _ h => h)
      ·cases ho
       cases hd
       have e0 : a'.tmps.getD 33 undef = .tuple #[.agg #[.int .i64 xk, .int .i64 xo, .string xn], .int .i64 xe] := hdep 8 33 rfl (by kernel_rfl)
       have e0' := gd_ e0
       clear cs0 cs1 cn0 cn1 cn2 cq6 cx0 cx1 cx2 cx3 cx4 cx5 cx6
       unfold Oper.wp
       go_simp
       exact hK _ _ rfl (GM.step hFF hRR (Below.refl _ _) 9 42 _ (by decide) (by decide) (by decide)) (fun _ _ h => h)
      ·cases ho
       cases hd
       have e0 : a'.tmps.getD 33 undef = .tuple #[.agg #[.int .i64 xk, .int .i64 xo, .string xn], .int .i64 xe] := hdep 8 33 rfl (by kernel_rfl)
       have e0' := gd_ e0
       clear cs0 cs1 cn0 cn1 cn2 cq6 cx0 cx1 cx2 cx3 cx4 cx5 cx6
       unfold Oper.wp
       go_simp
       exact hK _ _ rfl (GM.step hFF hRR (Below.refl _ _) 10 43 _ (by decide) (by decide) (by decide)) (fun _ _ h => h)
      ·cases ho
       cases hd
       clear cs0 cs1 cn0 cn1 cn2 cq6 cx0 cx1 cx2 cx3 cx4 cx5 cx6
       unfold Oper.wp
       go_simp
       exact hK _ _ trivial (hRR.alloc (by decide) hL (by rw [hsz]; first | decide | simp)) (SpS.up (blw1 _ _))
      ·cases hd
      ·cases ho
       cases hd
       have e0 : a'.tmps.getD 43 undef = .int .i64 xe := hdep 10 43 rfl (by kernel_rfl)
       have e0' := gd_ e0
       clear cs0 cs1 cn0 cn1 cn2 cq6 cx0 cx1 cx2 cx3 cx4 cx5 cx6
       unfold Oper.wp
       go_simp
       exact hK _ _ rfl (GM.step hFF hRR (Below.refl _ _) 13 11 _ (by decide) (by decide) (by decide)) (fun _ _ h => h)
     ·intro q o ho hd L a' w' hL hw hRR hdep K hK
      have hqN : q < 14 := (List.getElem?_eq_some_iff.1 ho).1
      have hR := hRR.below
      have m1 := kept_of_below hR k1r
      have m2 := kept_of_below hR k2r
      have m3 := kept_of_below hR k3r
      obtain ⟨cs0, cs1⟩ := bl2_ m1
      obtain ⟨cn0, cn1, cn2⟩ := bl3_ m2
      have cq6 : w'.cell? ⟨w.heap.size + 2, 6, none⟩ = some (.slice (some ⟨g, off, none⟩) Ln qlc) := lc_ m3 rfl
      have cx0 := (hR.cell (p := ⟨g, off + j * 7, none⟩) hgr).trans a0
      have cx1 := (hR.cell (p := ⟨g, off + j * 7 + 1, none⟩) hgr).trans a1
      have cx2 := (hR.cell (p := ⟨g, off + j * 7 + 2, none⟩) hgr).trans a2
      have cx3 := (hR.cell (p := ⟨g, off + j * 7 + 3, none⟩) hgr).trans a3
      have cx4 := (hR.cell (p := ⟨g, off + j * 7 + 4, none⟩) hgr).trans a4
      have cx5 := (hR.cell (p := ⟨g, off + j * 7 + 5, none⟩) hgr).trans a5
      have cx6 := (hR.cell (p := ⟨g, off + j * 7 + 6, none⟩) hgr).trans a6
      clear m1 m2 m3
      have hc : q = 0 ∨ q = 1 ∨ q = 2 ∨ q = 3 ∨ q = 4 ∨ q = 5 ∨ q = 6 ∨ q = 7 ∨ q = 8 ∨ q = 9 ∨ q = 10 ∨ q = 11 ∨ q = 12 ∨ q = 13 := by omega
      rcases hc with rfl | rfl | rfl | rfl | rfl | rfl | rfl | rfl | rfl | rfl | rfl | rfl | rfl | rfl
      ·cases hd
      ·cases hd
      ·cases hd
      ·cases hd
      ·cases hd
      ·cases hd
      ·cases hd
      ·cases hd
      ·cases hd
      ·cases hd
      ·cases hd
      ·cases hd
      ·cases ho
       have e0 : a'.tmps.getD 42 undef = .agg #[.int .i64 xk, .int .i64 xo, .string xn] := hdep 9 42 rfl (by kernel_rfl)
       have e0' := gd_ e0
       clear cs0 cs1 cn0 cn1 cn2 cq6 cx0 cx1 cx2 cx3 cx4 cx5 cx6
       obtain ⟨V, eV, hVle, hVz, hS⟩ := hRR.store (hw 11 (by kernel_rfl)) hL
       obtain ⟨d0, d1, d2⟩ := bl3_ hVz
       have df : ∀ o, w'.frozen? ⟨V, o, none⟩ = false := fun o => Lib.frozen_of_heap hVz o
       have q3 := heap_setCell_same _ V 2 _ _ (.string xn) (heap_setCell_same _ V 1 _ _ (.int .i64 xo) (heap_setCell_same w' V 0 _ _ (.int .i64 xk) hVz))
       have HP := hide (And.intro (hS _ (set3_below (.int .i64 xk) (.int .i64 xo) (.string xn) hRR.below hVle) q3) (SpS.kept 3 54 hVz rfl (set3_keep w' V (.int .i64 xk) (.int .i64 xo) (.string xn)) (l := [.eq (.agg #[.slice ko s.ks.length kc, .slice ao s.ac.length acp]), .eq (.agg #[.string p, .string ac, .string r]), .eq (.pointer (some ⟨w.heap.size + 2, 6, none⟩)), .eq (.slice (some ⟨g, off, none⟩) Ln qlc), .eq (.int .i64 j), .eq (.pointer (some ⟨g, off + j * 7, none⟩)), .eq (.agg #[.int .i64 x.k, .bool x.b, .int .i64 x.n, .string x.s, .string x.t, .string x.i, .slice x.lo x.ll x.lc]), .eq (.tuple #[.agg #[.int .i64 xk, .int .i64 xo, .string xn], .int .i64 xe]), .eq (.tuple #[.agg #[.int .i64 xk, .int .i64 xo, .string xn], .int .i64 xe]), .eq (.agg #[.int .i64 xk, .int .i64 xo, .string xn]), .eq (.int .i64 xe), .any, .any, .eq (.int .i64 xe)]) rfl))
       have e1 := eV
       clear hVz hS q3
       unfold Oper.wp
       go_simp
       exact hK _ (unhide HP).1 (unhide HP).2 undef
      ·cases hd
     ·intro v L w' hLa hRR hv
      have bE := hRR.below
      obtain ⟨V, eV, hVle, hVF⟩ := hRR.full (hLa 12 (by decide))
      have f0 : v 0 = .agg #[.slice ko s.ks.length kc, .slice ao s.ac.length acp] := (hv 0 34 rfl).1
      have f1 : v 1 = .agg #[.string p, .string ac, .string r] := (hv 1 35 rfl).1
      have f2 : v 2 = .pointer (some ⟨w.heap.size + 2, 6, none⟩) := (hv 2 36 rfl).1
      have f3 : v 3 = .slice (some ⟨g, off, none⟩) Ln qlc := (hv 3 37 rfl).1
      have f4 : v 4 = .int .i64 j := (hv 4 38 rfl).1
      have f5 : v 5 = .pointer (some ⟨g, off + j * 7, none⟩) := (hv 5 39 rfl).1
      have f6 : v 6 = .agg #[.int .i64 x.k, .bool x.b, .int .i64 x.n, .string x.s, .string x.t, .string x.i, .slice x.lo x.ll x.lc] := (hv 6 40 rfl).1
      have f7 : v 7 = .tuple #[.agg #[.int .i64 xk, .int .i64 xo, .string xn], .int .i64 xe] := (hv 7 41 rfl).1
      have f8 : v 8 = .tuple #[.agg #[.int .i64 xk, .int .i64 xo, .string xn], .int .i64 xe] := (hv 8 33 rfl).1
      have f9 : v 9 = .agg #[.int .i64 xk, .int .i64 xo, .string xn] := (hv 9 42 rfl).1
      have f10 : v 10 = .int .i64 xe := (hv 10 43 rfl).1
      have f13 : v 13 = .int .i64 xe := (hv 13 11 rfl).1
      have f11 : v 11 = .pointer (some ⟨V, 0, none⟩) := ((hv 11 10 rfl).2).symm.trans eV
      clear eV
      clear hRR hv hLa
      simp only [putAll, dstOf, List.getElem?_cons_zero, List.getElem?_cons_succ, Option.bind_some, List.length_cons, List.length_nil, f0, f1, f2, f3, f4, f5, f6, f7, f8, f9, f10, f11, f13]
      clear f0 f1 f2 f3 f4 f5 f6 f7 f8 f9 f10 f11 f13
      simp only [Act.put, List.setIfInBounds_toArray, List.set_cons_succ, List.set_cons_zero]
      generalize v 12 = vv12
      have hVf := hVF
      have bw6 := hbw.trans (bE.mono hbw.size)
      have b06 := b0r.trans (bE.mono b0r.size)
      have k46 := kept_of_below bE k4r
      have Hown6 := hide (owns_below bE (unhide Hown))
      obtain ⟨w6, hw6⟩ : ∃ q, q = w' := ⟨_, rfl⟩
      subst hw6
      clear a0 a1 a2 a3 a4 a5 a6 C
      by_cases hxe : xe = 0
      ·subst hxe
       have HN2 := hide ((unhide Hty).trans ((unhide HN).1 rfl))
       clear HN Hty
       obtain ⟨t0, t1, t2⟩ := bl3_ hVf
       have b7 := blw1 w6 (.cells #[.int .i64 xk, .int .i64 xo, .string xn] 54)
       have h7 := alloc_heap w6 (.cells #[.int .i64 xk, .int .i64 xo, .string xn] 54)
       have Hown7 := hide (owns_below b7 (unhide Hown6))
       have bw7 := bw6.trans (b7.mono bw6.size)
       have z7 : w1.heap.size ≤ (w6.alloc (.cells #[.int .i64 xk, .int .i64 xo, .string xn] 54)).heap.size := bw7.size
       go_wp2_with (at_builtin; refine wpList_append_own_at _ rfl _ _ 91 rfl w1.heap.size 54 iT _ 3 32 Try.underlying91 hiT hzT0 hzT1 hzT2 rfl (by decide) _ _ _ rfl (unhide Hown7) ⟨w6.heap.size, 0, none⟩ 1 1 [.int .i64 xk, .int .i64 xo, .string xn] rfl rfl ?p1 ?p2 ?p3 ?p4 ?p5 ?_)
       case p1 =>
        intro c u hu
        rw [Addr.add_lit, Nat.zero_add, Lib.cell_of_heap h7]
        simpa using hu
       case p2 =>
        intro u hu
        simp only [List.mem_cons, List.not_mem_nil, or_false] at hu
        rcases hu with rfl | rfl | rfl <;> rfl
       case p3 => have := unhide Htl; unfold maxLen; omega
       case p4 => have := unhide Htl; omega
       case p5 => first | exact z7 | simpa using z7
       intro v8 w8 hown8 hgrow _ _
       have hown8' : w8.ownsRow w1.heap.size 54 3 v8 (ts ++ [(⟨xk, xo, xn⟩ : T3)]).length ((ts ++ [(⟨xk, xo, xn⟩ : T3)]).map T3.cells).flatten := by
        rw [List.map_append, List.flatten_append, List.length_append]
        exact hown8
       have bw8 : Below w1.heap.size w1 w8 := bw7.grown hgrow bw7.size (fun j hj => ((unhide Hown7).lt j hj).1)
       have H8 := hide hown8'
       clear hown8 hown8' hgrow Hown Hown6 Hown7 t0 t1 t2 h7
       go_wp2
       go_roundw
       case rel => exact ⟨j + 1, ts ++ [⟨xk, xo, xn⟩], by go_num, by omega, by rw [List.length_append]; simp [unhide Htl], bw8, unhide H8, unhide HN2⟩
       case measure =>
        simp only [intOf]
        omega
      ·have gx : (xe == 0) = false := by simpa using hxe
       have gx2 : (xe != 0) = true := by simpa using hxe
       have HE := hide (show typE s p r (.mk qk qb qn sx t i l) = (⟨0, 0, ⟨#[]⟩⟩, xe) from by rw [unhide HE, unhide Hty, (unhide HN).2 hxe]; rfl)
       clear hxe HN
       obtain ⟨z0, z1, z2⟩ := bl3_ k46
       have zf : ∀ o, w6.frozen? ⟨w.heap.size + 3, o, none⟩ = false := fun o => Lib.frozen_of_heap k46 o
       have HQ := hide (set3_all (.int .i64 0) (.int .i64 0) (.string ⟨#[]⟩) k46 b06 (Nat.le_add_right _ 3))
       go_wp2
       obtain ⟨q0, q1, q2, qb_⟩ := unhide HQ
       exact bodyPost_ret (v := .tuple #[.agg #[.int .i64 0, .int .i64 0, .string ⟨#[]⟩], .int .i64 xe]) (by simp [results, Try.results30, go_sem, q0, q1, q2]) rfl ⟨by rw [unhide HE]; rfl, qb_⟩
    ·have i1 : ¬ (j : Int) < (Ln : Int) := by omega
     have hn : l.length ≤ j := by
      have := unhide HL
      omega
     have HE := hide (show typE s p r (.mk qk qb qn sx t i l) = nodeT s p r qk (ba sx) (ba t) (ba i) ts from by
      rw [unhide HE, unhide Hty, List.drop_eq_nil_of_le hn, typL])
     obtain ⟨tlo, tlc, rfl, hrow, _, _⟩ := own_row (f := T3.cells) (fun _ => rfl) (unhide Hown)
     have hrow : RowT3 wr tlo ts := hrow
     have hjn : ts.length = l.length := by
      have := unhide HL
      have := unhide Htl
      omega
     have C := rown_any s _ p r qk qb qn (ba sx) (ba t) (ba i) qlo Ln qlc ts tlo tlc wr hsm hna ((unhide HS).below b0r) ⟨by omega, hk.2⟩ (fun h6 => hjn.trans (unhide HN0 h6)) (by have := unhide Htl; omega) hrow
     obtain ⟨X, hX⟩ : ∃ X, X = nodeT s p r qk (ba sx) (ba t) (ba i) ts := ⟨_, rfl⟩
     rw [← hX] at C HE
     clear hX
     obtain ⟨⟨xk, xo, xn⟩, xe⟩ := X
     unfold TR.ret at C
     simp only at C
     obtain ⟨cs0, cs1⟩ := bl2_ k1r
     obtain ⟨cx0, cx1, cx2, cx3, cx4, cx5, cx6⟩ := bl7_ k3r
     clear hrow hjn hn Htl
     generalize ts.length = tl at *
     go_wp2_with fail
     refine C.mono ?_
     clear C cs0 cs1 cx0 cx1 cx2 cx3 cx4 cx5 cx6
     rintro e9 w5 ⟨rfl, b5⟩
     have k45 := kept_of_below b5 k4r
     have b05 := b0r.trans (b5.mono b0r.size)
     obtain ⟨z0, z1, z2⟩ := bl3_ k45
     have zf : ∀ o, w5.frozen? ⟨w.heap.size + 3, o, none⟩ = false := fun o => Lib.frozen_of_heap k45 o
     have HQ := hide (set3_all (.int .i64 xk) (.int .i64 xo) (.string xn) k45 b05 (Nat.le_add_right _ 3))
     go_wp2
     obtain ⟨q0, q1, q2, qb_⟩ := unhide HQ
     exact bodyPost_ret (v := .tuple #[.agg #[.int .i64 xk, .int .i64 xo, .string xn], .int .i64 xe]) (by simp [results, Try.results30, go_sem, q0, q1, q2]) rfl ⟨by rw [unhide HE]; rfl, qb_⟩
end Go.Proofs.Ytagnbpobcijakaa

namespace Go.Proofs.Ytagnbpobcijakaa
open Go.RowKit Go.Sort

theorem slL_of : ∀ (l : List Ex), (∀ x ∈ l, slE x = true) → slL l = true
 | [], _ => by unfold slL; rfl
 | x :: l, h => by
  unfold slL
  rw [h x (by simp), slL_of l fun y hy => h y (by simp [hy])]
  rfl
theorem depL_leT : ∀ (l : List Ex) (m : Nat), (∀ x ∈ l, depE x ≤ m) → depL l ≤ m
 | [], m, _ => by unfold depL; exact Nat.zero_le _
 | x :: l, m, h => by
  unfold depL
  exact Nat.max_le.2 ⟨h x (by simp), depL_leT l m fun y hy => h y (by simp [hy])⟩
set_option maxHeartbeats 8000000 in
set_option maxRecDepth 1000000 in
theorem of11_any (s : SP) (p ac r : ByteArray) (e : Ex) (n : Nat) (v : Value) (q : R7) (w : World) (hsm : SmS s) (hna : noneB s.names ⟨#[65, 99, 116, 105, 111, 110]⟩ = true) (hd : depE e ≤ n) (hsl : slE e = true) (hok : okT e) (hs : IsST w v s) (hq : IsE w (fun _ => True) q e) :
  Calls Try.prog 11 #[v, .agg #[.string p, .string ac, .string r], .agg #[.int .i64 q.k, .bool q.b, .int .i64 q.n, .string q.s, .string q.t, .string q.i, .slice q.lo q.ll q.lc]] w fun en w' => en = .returned (.bool true) ∧ Below w.heap.size w w' := by
 have C1 := fun w' (hb : Below w.heap.size w w') => yOf_any s p ac r hsm n e hd hsl v q w' (hs.is.below hb) (hq.lift hb)
 have C2 := fun w' (hb : Below w.heap.size w w') => rOf_any s p ac r hsm hna n e hd hsl hok v q w' (hs.below hb) (hq.lift hb)
 obtain ⟨X, hX⟩ : ∃ X, X = typE s p r e := ⟨_, rfl⟩
 rw [← hX] at C1 C2
 obtain ⟨ko, kc, ao, acp, rfl, _, _⟩ := hs.ex2
 clear hX hsm hna hd hsl hok hs hq
 obtain ⟨⟨xk, xo, xn⟩, xe⟩ := X
 unfold TR.ret at C1 C2
 simp only at C1 C2
 obtain ⟨bX, zX, k1, k2, k3⟩ := alloc3 w (.cells #[.slice ko s.ks.length kc, .slice ao s.ac.length acp] 33) (.cells #[.string p, .string ac, .string r] 42) (.cells #[.int .i64 q.k, .bool q.b, .int .i64 q.n, .string q.s, .string q.t, .string q.i, .slice q.lo q.ll q.lc] 39)
 go_enter Try.func11, Try.ntmps11
 go_upto_region 1 with fail
 generalize ((w.alloc _).alloc _).alloc _ = w1 at *
 clear zX
 obtain ⟨cs0, cs1⟩ := bl2_ k1
 obtain ⟨cn0, cn1, cn2⟩ := bl3_ k2
 obtain ⟨cx0, cx1, cx2, cx3, cx4, cx5, cx6⟩ := bl7_ k3
 have C1 := C1 w1 bX
 go_wp2_with fail
 refine C1.mono ?_
 clear C1
 clear cs0 cs1 cn0 cn1 cn2 cx0 cx1 cx2 cx3 cx4 cx5 cx6
 rintro e9 w5 ⟨rfl, b5⟩
 have b6 := blw1 w5 (.cells #[.int .i64 xk, .int .i64 xo, .string xn] 54)
 have h6 := alloc_heap w5 (.cells #[.int .i64 xk, .int .i64 xo, .string xn] 54)
 have B6 := b5.trans (b6.mono b5.size)
 have bX6 := bX.trans (B6.mono bX.size)
 have k1 := kept_of_below B6 k1
 have k2 := kept_of_below B6 k2
 have k3 := kept_of_below B6 k3
 go_upto_region 2 with fail
 generalize w5.alloc _ = w6 at *
 obtain ⟨cs0, cs1⟩ := bl2_ k1
 obtain ⟨cn0, cn1, cn2⟩ := bl3_ k2
 obtain ⟨cx0, cx1, cx2, cx3, cx4, cx5, cx6⟩ := bl7_ k3
 have C2 := C2 w6 bX6
 go_wp2_with fail
 refine C2.mono ?_
 clear C2
 clear cs0 cs1 cn0 cn1 cn2 cx0 cx1 cx2 cx3 cx4 cx5 cx6
 rintro e9 w7 ⟨rfl, b7⟩
 have b8 := blw1 w7 (.cells #[.int .i64 xk, .int .i64 xo, .string xn] 54)
 have h8 := alloc_heap w7 (.cells #[.int .i64 xk, .int .i64 xo, .string xn] 54)
 have B8 := b7.trans (b8.mono b7.size)
 have bX8 := bX6.trans (B8.mono bX6.size)
 have h6 := kept_of_below B8 h6
 go_upto_region 3 with fail
 generalize w7.alloc _ = w8 at *
 obtain ⟨t0, t1, t2⟩ := bl3_ h6
 obtain ⟨u0, u1, u2⟩ := bl3_ h8
 have BT := binEqlT3 ⟨xk, xo, xn⟩ ⟨xk, xo, xn⟩
 simp only [decide_true] at BT
 have ge : (xe == xe) = true := by simp
 go_wp2
 go_ret
 exact ⟨rfl, bX8⟩
end Go.Proofs.Ytagnbpobcijakaa
