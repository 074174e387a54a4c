/-
 chancelref11.own: mul, add, sub: what it returns.
 chancelref11.own: comparisons: what it returns.
 chancelref11.own: and, or: what it returns.
 chancelref11.own: same, other: what it returns.
-/
import Derived.Test.YtagnbpobcijakaaTyUV
namespace Go.Proofs.Ytagnbpobcijakaa
open Go.RowKit Go.Sort

set_option maxHeartbeats 8000000 in
set_option maxRecDepth 1000000 in
theorem rown_13 (s : SP) (v : Value) (p r : ByteArray) (eb : Bool) (en : Int) (es et ei : ByteArray) (elo : Option Addr) (ell elc : Nat) (ak aq : Int) (an : ByteArray) (bk bq : Int) (bn : ByteArray) (lo : Option Addr) (cap : Nat) (w : World) (_hsm : SmS s) (hs : IsST w v s) (hr : RowT3 w lo [⟨ak, aq, an⟩, ⟨bk, bq, bn⟩]) : Calls Try.prog 43 #[v, .agg #[.int .i64 13, .bool eb, .int .i64 en, .string es, .string et, .string ei, .slice elo ell elc], .slice lo 2 cap] w fun e w' => e = .returned (nodeT s p r 13 es et ei [⟨ak, aq, an⟩, ⟨bk, bq, bn⟩]).ret ∧ Below w.heap.size w w' := by
 obtain ⟨ko, kc, ao, acp, rfl, _, _⟩ := hs.ex2
 obtain ⟨bX, zX, k1, k2, k3⟩ := alloc3 w (.cells #[.slice ko s.ks.length kc, .slice ao s.ac.length acp] 33) (.cells #[.int .i64 13, .bool eb, .int .i64 en, .string es, .string et, .string ei, .slice elo ell elc] 39) (.cells #[.int .i64 0, .int .i64 0, .string ⟨#[]⟩] 54)
 have HS := hide hs
 have HR := hide hr
 obtain ⟨g, off, rfl, hg, hat0⟩ := hr.get (Below.refl _ w) (show 0 < ([⟨ak, aq, an⟩, ⟨bk, bq, bn⟩] : List T3).length by simp)
 have hat0 : AtT3 w g off ⟨ak, aq, an⟩ := by simpa using hat0
 obtain ⟨a0, a1, a2⟩ := hat0
 simp only at a0 a1 a2
 obtain ⟨g', off', eg, _, hat1⟩ := hr.get (Below.refl _ w) (show 1 < ([⟨ak, aq, an⟩, ⟨bk, bq, bn⟩] : List T3).length by simp)
 cases eg
 have hat1 : AtT3 w g (off + 3) ⟨bk, bq, bn⟩ := by simpa using hat1
 obtain ⟨b0, b1, b2⟩ := hat1
 simp only at b0 b1 b2
 clear hs hr
 go_enter Try.func43, Try.ntmps43
 go_upto_region 1 with fail
 generalize ((w.alloc _).alloc _).alloc _ = w1 at *
 clear zX
 have hw1 : w.heap.size ≤ w1.heap.size := bX.size
 have b2 := blw1 w1 (.cells #[.int .i64 0, .int .i64 0, .string ⟨#[]⟩] 54)
 have h2 := alloc_heap w1 (.cells #[.int .i64 0, .int .i64 0, .string ⟨#[]⟩] 54)
 have k4 := h2
 have B2 := b2
 obtain ⟨n0, n1, n2⟩ := bl3_ h2
 have nf : ∀ o, (w1.alloc (.cells #[.int .i64 0, .int .i64 0, .string ⟨#[]⟩] 54)).frozen? ⟨w1.heap.size, o, none⟩ = false := fun o => Lib.frozen_of_heap h2 o
 go_upto_region 2 with fail
 clear n0 n1 n2 nf b2 h2
 generalize w1.alloc _ = w2 at *
 have bX := bX.trans (B2.mono bX.size)
 have k1 := kept_of_below B2 k1
 have k2 := kept_of_below B2 k2
 have k3 := kept_of_below B2 k3
 have hs2 := (unhide HS).below bX
 have hr2 := (unhide HR).below bX
 clear B2
 have ce0 : w2.cell? ⟨w.heap.size + 1, 0, none⟩ = some (.int .i64 13) := lc_ k2 rfl
 have ce3 : w2.cell? ⟨w.heap.size + 1, 3, none⟩ = some (.string es) := lc_ k2 rfl
 have a0 := (bX.cell (p := ⟨g, off, none⟩) hg).trans a0
 have a1 := (bX.cell (p := ⟨g, off + 1, none⟩) hg).trans a1
 have a2 := (bX.cell (p := ⟨g, off + 2, none⟩) hg).trans a2
 have b0 := (bX.cell (p := ⟨g, off + 3, none⟩) hg).trans b0
 have b1 := (bX.cell (p := ⟨g, off + 4, none⟩) hg).trans b1
 have b2 := (bX.cell (p := ⟨g, off + 5, none⟩) hg).trans b2
 have C := rneed_any [⟨ak, aq, an⟩, ⟨bk, bq, bn⟩] _ cap 2 2 2 w2 rfl (by simp) hr2
 have HE : nodeT s p r 13 es et ei [⟨ak, aq, an⟩, ⟨bk, bq, bn⟩] = needT [⟨ak, aq, an⟩, ⟨bk, bq, bn⟩] 2 2 := by
  rw [need_two]
  rfl
 obtain ⟨x, hx⟩ : ∃ x : TR, x = needT [⟨ak, aq, an⟩, ⟨bk, bq, bn⟩] 2 2 := ⟨_, rfl⟩
 rw [← hx] at C HE
 obtain ⟨⟨xk, xo, xn⟩, xe⟩ := x
 have HE := hide HE
 clear hx hs2 hr2
 unfold TR.ret at C
 simp only at C
 go_wp2_with fail
 refine C.mono ?_
 clear C
 rintro e9 w5 ⟨rfl, b5⟩
 have hV5 := kept_of_below b5 k3
 have bb5 := bX.trans (b5.mono bX.size)
 obtain ⟨z0, z1, z2⟩ := bl3_ hV5
 have zf : ∀ o, w5.frozen? ⟨w.heap.size + 2, o, none⟩ = false := fun o => Lib.frozen_of_heap hV5 o
 have HQ := hide (set3_all (.int .i64 xk) (.int .i64 xo) (.string xn) hV5 bb5 (Nat.le_add_right _ 2))
 go_wp2
 obtain ⟨q0, q1, q2, qb⟩ := unhide HQ
 exact bodyPost_ret (v := .tuple #[.agg #[.int .i64 xk, .int .i64 xo, .string xn], .int .i64 xe]) (by simp [results, Try.results43, go_sem, q0, q1, q2]) rfl ⟨by rw [unhide HE]; rfl, qb⟩
set_option maxHeartbeats 8000000 in
set_option maxRecDepth 1000000 in
theorem rown_14 (s : SP) (v : Value) (p r : ByteArray) (eb : Bool) (en : Int) (es et ei : ByteArray) (elo : Option Addr) (ell elc : Nat) (ak aq : Int) (an : ByteArray) (bk bq : Int) (bn : ByteArray) (lo : Option Addr) (cap : Nat) (w : World) (_hsm : SmS s) (hs : IsST w v s) (hr : RowT3 w lo [⟨ak, aq, an⟩, ⟨bk, bq, bn⟩]) : Calls Try.prog 43 #[v, .agg #[.int .i64 14, .bool eb, .int .i64 en, .string es, .string et, .string ei, .slice elo ell elc], .slice lo 2 cap] w fun e w' => e = .returned (nodeT s p r 14 es et ei [⟨ak, aq, an⟩, ⟨bk, bq, bn⟩]).ret ∧ Below w.heap.size w w' := by
 obtain ⟨ko, kc, ao, acp, rfl, _, _⟩ := hs.ex2
 obtain ⟨bX, zX, k1, k2, k3⟩ := alloc3 w (.cells #[.slice ko s.ks.length kc, .slice ao s.ac.length acp] 33) (.cells #[.int .i64 14, .bool eb, .int .i64 en, .string es, .string et, .string ei, .slice elo ell elc] 39) (.cells #[.int .i64 0, .int .i64 0, .string ⟨#[]⟩] 54)
 have HS := hide hs
 have HR := hide hr
 obtain ⟨g, off, rfl, hg, hat0⟩ := hr.get (Below.refl _ w) (show 0 < ([⟨ak, aq, an⟩, ⟨bk, bq, bn⟩] : List T3).length by simp)
 have hat0 : AtT3 w g off ⟨ak, aq, an⟩ := by simpa using hat0
 obtain ⟨a0, a1, a2⟩ := hat0
 simp only at a0 a1 a2
 obtain ⟨g', off', eg, _, hat1⟩ := hr.get (Below.refl _ w) (show 1 < ([⟨ak, aq, an⟩, ⟨bk, bq, bn⟩] : List T3).length by simp)
 cases eg
 have hat1 : AtT3 w g (off + 3) ⟨bk, bq, bn⟩ := by simpa using hat1
 obtain ⟨b0, b1, b2⟩ := hat1
 simp only at b0 b1 b2
 clear hs hr
 go_enter Try.func43, Try.ntmps43
 go_upto_region 1 with fail
 generalize ((w.alloc _).alloc _).alloc _ = w1 at *
 clear zX
 have hw1 : w.heap.size ≤ w1.heap.size := bX.size
 have b2 := blw1 w1 (.cells #[.int .i64 0, .int .i64 0, .string ⟨#[]⟩] 54)
 have h2 := alloc_heap w1 (.cells #[.int .i64 0, .int .i64 0, .string ⟨#[]⟩] 54)
 have k4 := h2
 have B2 := b2
 obtain ⟨n0, n1, n2⟩ := bl3_ h2
 have nf : ∀ o, (w1.alloc (.cells #[.int .i64 0, .int .i64 0, .string ⟨#[]⟩] 54)).frozen? ⟨w1.heap.size, o, none⟩ = false := fun o => Lib.frozen_of_heap h2 o
 go_upto_region 2 with fail
 clear n0 n1 n2 nf b2 h2
 generalize w1.alloc _ = w2 at *
 have bX := bX.trans (B2.mono bX.size)
 have k1 := kept_of_below B2 k1
 have k2 := kept_of_below B2 k2
 have k3 := kept_of_below B2 k3
 have hs2 := (unhide HS).below bX
 have hr2 := (unhide HR).below bX
 clear B2
 have ce0 : w2.cell? ⟨w.heap.size + 1, 0, none⟩ = some (.int .i64 14) := lc_ k2 rfl
 have ce3 : w2.cell? ⟨w.heap.size + 1, 3, none⟩ = some (.string es) := lc_ k2 rfl
 have a0 := (bX.cell (p := ⟨g, off, none⟩) hg).trans a0
 have a1 := (bX.cell (p := ⟨g, off + 1, none⟩) hg).trans a1
 have a2 := (bX.cell (p := ⟨g, off + 2, none⟩) hg).trans a2
 have b0 := (bX.cell (p := ⟨g, off + 3, none⟩) hg).trans b0
 have b1 := (bX.cell (p := ⟨g, off + 4, none⟩) hg).trans b1
 have b2 := (bX.cell (p := ⟨g, off + 5, none⟩) hg).trans b2
 have C := rneed_any [⟨ak, aq, an⟩, ⟨bk, bq, bn⟩] _ cap 2 2 2 w2 rfl (by simp) hr2
 have HE : nodeT s p r 14 es et ei [⟨ak, aq, an⟩, ⟨bk, bq, bn⟩] = needT [⟨ak, aq, an⟩, ⟨bk, bq, bn⟩] 2 2 := by
  rw [need_two]
  rfl
 obtain ⟨x, hx⟩ : ∃ x : TR, x = needT [⟨ak, aq, an⟩, ⟨bk, bq, bn⟩] 2 2 := ⟨_, rfl⟩
 rw [← hx] at C HE
 obtain ⟨⟨xk, xo, xn⟩, xe⟩ := x
 have HE := hide HE
 clear hx hs2 hr2
 unfold TR.ret at C
 simp only at C
 go_wp2_with fail
 refine C.mono ?_
 clear C
 rintro e9 w5 ⟨rfl, b5⟩
 have hV5 := kept_of_below b5 k3
 have bb5 := bX.trans (b5.mono bX.size)
 obtain ⟨z0, z1, z2⟩ := bl3_ hV5
 have zf : ∀ o, w5.frozen? ⟨w.heap.size + 2, o, none⟩ = false := fun o => Lib.frozen_of_heap hV5 o
 have HQ := hide (set3_all (.int .i64 xk) (.int .i64 xo) (.string xn) hV5 bb5 (Nat.le_add_right _ 2))
 go_wp2
 obtain ⟨q0, q1, q2, qb⟩ := unhide HQ
 exact bodyPost_ret (v := .tuple #[.agg #[.int .i64 xk, .int .i64 xo, .string xn], .int .i64 xe]) (by simp [results, Try.results43, go_sem, q0, q1, q2]) rfl ⟨by rw [unhide HE]; rfl, qb⟩
set_option maxHeartbeats 8000000 in
set_option maxRecDepth 1000000 in
theorem rown_15 (s : SP) (v : Value) (p r : ByteArray) (eb : Bool) (en : Int) (es et ei : ByteArray) (elo : Option Addr) (ell elc : Nat) (ak aq : Int) (an : ByteArray) (bk bq : Int) (bn : ByteArray) (lo : Option Addr) (cap : Nat) (w : World) (_hsm : SmS s) (hs : IsST w v s) (hr : RowT3 w lo [⟨ak, aq, an⟩, ⟨bk, bq, bn⟩]) : Calls Try.prog 43 #[v, .agg #[.int .i64 15, .bool eb, .int .i64 en, .string es, .string et, .string ei, .slice elo ell elc], .slice lo 2 cap] w fun e w' => e = .returned (nodeT s p r 15 es et ei [⟨ak, aq, an⟩, ⟨bk, bq, bn⟩]).ret ∧ Below w.heap.size w w' := by
 obtain ⟨ko, kc, ao, acp, rfl, _, _⟩ := hs.ex2
 obtain ⟨bX, zX, k1, k2, k3⟩ := alloc3 w (.cells #[.slice ko s.ks.length kc, .slice ao s.ac.length acp] 33) (.cells #[.int .i64 15, .bool eb, .int .i64 en, .string es, .string et, .string ei, .slice elo ell elc] 39) (.cells #[.int .i64 0, .int .i64 0, .string ⟨#[]⟩] 54)
 have HS := hide hs
 have HR := hide hr
 obtain ⟨g, off, rfl, hg, hat0⟩ := hr.get (Below.refl _ w) (show 0 < ([⟨ak, aq, an⟩, ⟨bk, bq, bn⟩] : List T3).length by simp)
 have hat0 : AtT3 w g off ⟨ak, aq, an⟩ := by simpa using hat0
 obtain ⟨a0, a1, a2⟩ := hat0
 simp only at a0 a1 a2
 obtain ⟨g', off', eg, _, hat1⟩ := hr.get (Below.refl _ w) (show 1 < ([⟨ak, aq, an⟩, ⟨bk, bq, bn⟩] : List T3).length by simp)
 cases eg
 have hat1 : AtT3 w g (off + 3) ⟨bk, bq, bn⟩ := by simpa using hat1
 obtain ⟨b0, b1, b2⟩ := hat1
 simp only at b0 b1 b2
 clear hs hr
 go_enter Try.func43, Try.ntmps43
 go_upto_region 1 with fail
 generalize ((w.alloc _).alloc _).alloc _ = w1 at *
 clear zX
 have hw1 : w.heap.size ≤ w1.heap.size := bX.size
 have b2 := blw1 w1 (.cells #[.int .i64 0, .int .i64 0, .string ⟨#[]⟩] 54)
 have h2 := alloc_heap w1 (.cells #[.int .i64 0, .int .i64 0, .string ⟨#[]⟩] 54)
 have k4 := h2
 have B2 := b2
 obtain ⟨n0, n1, n2⟩ := bl3_ h2
 have nf : ∀ o, (w1.alloc (.cells #[.int .i64 0, .int .i64 0, .string ⟨#[]⟩] 54)).frozen? ⟨w1.heap.size, o, none⟩ = false := fun o => Lib.frozen_of_heap h2 o
 go_upto_region 2 with fail
 clear n0 n1 n2 nf b2 h2
 generalize w1.alloc _ = w2 at *
 have bX := bX.trans (B2.mono bX.size)
 have k1 := kept_of_below B2 k1
 have k2 := kept_of_below B2 k2
 have k3 := kept_of_below B2 k3
 have hs2 := (unhide HS).below bX
 have hr2 := (unhide HR).below bX
 clear B2
 have ce0 : w2.cell? ⟨w.heap.size + 1, 0, none⟩ = some (.int .i64 15) := lc_ k2 rfl
 have ce3 : w2.cell? ⟨w.heap.size + 1, 3, none⟩ = some (.string es) := lc_ k2 rfl
 have a0 := (bX.cell (p := ⟨g, off, none⟩) hg).trans a0
 have a1 := (bX.cell (p := ⟨g, off + 1, none⟩) hg).trans a1
 have a2 := (bX.cell (p := ⟨g, off + 2, none⟩) hg).trans a2
 have b0 := (bX.cell (p := ⟨g, off + 3, none⟩) hg).trans b0
 have b1 := (bX.cell (p := ⟨g, off + 4, none⟩) hg).trans b1
 have b2 := (bX.cell (p := ⟨g, off + 5, none⟩) hg).trans b2
 have C := rneed_any [⟨ak, aq, an⟩, ⟨bk, bq, bn⟩] _ cap 2 2 2 w2 rfl (by simp) hr2
 have HE : nodeT s p r 15 es et ei [⟨ak, aq, an⟩, ⟨bk, bq, bn⟩] = needT [⟨ak, aq, an⟩, ⟨bk, bq, bn⟩] 2 2 := by
  rw [need_two]
  rfl
 obtain ⟨x, hx⟩ : ∃ x : TR, x = needT [⟨ak, aq, an⟩, ⟨bk, bq, bn⟩] 2 2 := ⟨_, rfl⟩
 rw [← hx] at C HE
 obtain ⟨⟨xk, xo, xn⟩, xe⟩ := x
 have HE := hide HE
 clear hx hs2 hr2
 unfold TR.ret at C
 simp only at C
 go_wp2_with fail
 refine C.mono ?_
 clear C
 rintro e9 w5 ⟨rfl, b5⟩
 have hV5 := kept_of_below b5 k3
 have bb5 := bX.trans (b5.mono bX.size)
 obtain ⟨z0, z1, z2⟩ := bl3_ hV5
 have zf : ∀ o, w5.frozen? ⟨w.heap.size + 2, o, none⟩ = false := fun o => Lib.frozen_of_heap hV5 o
 have HQ := hide (set3_all (.int .i64 xk) (.int .i64 xo) (.string xn) hV5 bb5 (Nat.le_add_right _ 2))
 go_wp2
 obtain ⟨q0, q1, q2, qb⟩ := unhide HQ
 exact bodyPost_ret (v := .tuple #[.agg #[.int .i64 xk, .int .i64 xo, .string xn], .int .i64 xe]) (by simp [results, Try.results43, go_sem, q0, q1, q2]) rfl ⟨by rw [unhide HE]; rfl, qb⟩
end Go.Proofs.Ytagnbpobcijakaa

namespace Go.Proofs.Ytagnbpobcijakaa
open Go.RowKit Go.Sort

set_option maxHeartbeats 8000000 in
set_option maxRecDepth 1000000 in
theorem rown_16 (s : SP) (v : Value) (p r : ByteArray) (eb : Bool) (en : Int) (es et ei : ByteArray) (elo : Option Addr) (ell elc : Nat) (ak aq : Int) (an : ByteArray) (bk bq : Int) (bn : ByteArray) (lo : Option Addr) (cap : Nat) (w : World) (_hsm : SmS s) (hs : IsST w v s) (hr : RowT3 w lo [⟨ak, aq, an⟩, ⟨bk, bq, bn⟩]) : Calls Try.prog 43 #[v, .agg #[.int .i64 16, .bool eb, .int .i64 en, .string es, .string et, .string ei, .slice elo ell elc], .slice lo 2 cap] w fun e w' => e = .returned (nodeT s p r 16 es et ei [⟨ak, aq, an⟩, ⟨bk, bq, bn⟩]).ret ∧ Below w.heap.size w w' := by
 obtain ⟨ko, kc, ao, acp, rfl, _, _⟩ := hs.ex2
 obtain ⟨bX, zX, k1, k2, k3⟩ := alloc3 w (.cells #[.slice ko s.ks.length kc, .slice ao s.ac.length acp] 33) (.cells #[.int .i64 16, .bool eb, .int .i64 en, .string es, .string et, .string ei, .slice elo ell elc] 39) (.cells #[.int .i64 0, .int .i64 0, .string ⟨#[]⟩] 54)
 have HS := hide hs
 have HR := hide hr
 obtain ⟨g, off, rfl, hg, hat0⟩ := hr.get (Below.refl _ w) (show 0 < ([⟨ak, aq, an⟩, ⟨bk, bq, bn⟩] : List T3).length by simp)
 have hat0 : AtT3 w g off ⟨ak, aq, an⟩ := by simpa using hat0
 obtain ⟨a0, a1, a2⟩ := hat0
 simp only at a0 a1 a2
 obtain ⟨g', off', eg, _, hat1⟩ := hr.get (Below.refl _ w) (show 1 < ([⟨ak, aq, an⟩, ⟨bk, bq, bn⟩] : List T3).length by simp)
 cases eg
 have hat1 : AtT3 w g (off + 3) ⟨bk, bq, bn⟩ := by simpa using hat1
 obtain ⟨b0, b1, b2⟩ := hat1
 simp only at b0 b1 b2
 clear hs hr
 go_enter Try.func43, Try.ntmps43
 go_upto_region 1 with fail
 generalize ((w.alloc _).alloc _).alloc _ = w1 at *
 clear zX
 have hw1 : w.heap.size ≤ w1.heap.size := bX.size
 have b2 := blw1 w1 (.cells #[.int .i64 0, .int .i64 0, .string ⟨#[]⟩] 54)
 have h2 := alloc_heap w1 (.cells #[.int .i64 0, .int .i64 0, .string ⟨#[]⟩] 54)
 have k4 := h2
 have B2 := b2
 obtain ⟨n0, n1, n2⟩ := bl3_ h2
 have nf : ∀ o, (w1.alloc (.cells #[.int .i64 0, .int .i64 0, .string ⟨#[]⟩] 54)).frozen? ⟨w1.heap.size, o, none⟩ = false := fun o => Lib.frozen_of_heap h2 o
 go_upto_region 2 with fail
 clear n0 n1 n2 nf b2 h2
 generalize w1.alloc _ = w2 at *
 have bX := bX.trans (B2.mono bX.size)
 have k1 := kept_of_below B2 k1
 have k2 := kept_of_below B2 k2
 have k3 := kept_of_below B2 k3
 have hs2 := (unhide HS).below bX
 have hr2 := (unhide HR).below bX
 clear B2
 have ce0 : w2.cell? ⟨w.heap.size + 1, 0, none⟩ = some (.int .i64 16) := lc_ k2 rfl
 have ce3 : w2.cell? ⟨w.heap.size + 1, 3, none⟩ = some (.string es) := lc_ k2 rfl
 have a0 := (bX.cell (p := ⟨g, off, none⟩) hg).trans a0
 have a1 := (bX.cell (p := ⟨g, off + 1, none⟩) hg).trans a1
 have a2 := (bX.cell (p := ⟨g, off + 2, none⟩) hg).trans a2
 have b0 := (bX.cell (p := ⟨g, off + 3, none⟩) hg).trans b0
 have b1 := (bX.cell (p := ⟨g, off + 4, none⟩) hg).trans b1
 have b2 := (bX.cell (p := ⟨g, off + 5, none⟩) hg).trans b2
 have C := rneed_any [⟨ak, aq, an⟩, ⟨bk, bq, bn⟩] _ cap 2 2 1 w2 rfl (by simp) hr2
 have HE : nodeT s p r 16 es et ei [⟨ak, aq, an⟩, ⟨bk, bq, bn⟩] = needT [⟨ak, aq, an⟩, ⟨bk, bq, bn⟩] 2 1 := by
  rw [need_two]
  rfl
 obtain ⟨x, hx⟩ : ∃ x : TR, x = needT [⟨ak, aq, an⟩, ⟨bk, bq, bn⟩] 2 1 := ⟨_, rfl⟩
 rw [← hx] at C HE
 obtain ⟨⟨xk, xo, xn⟩, xe⟩ := x
 have HE := hide HE
 clear hx hs2 hr2
 unfold TR.ret at C
 simp only at C
 go_wp2_with fail
 refine C.mono ?_
 clear C
 rintro e9 w5 ⟨rfl, b5⟩
 have hV5 := kept_of_below b5 k3
 have bb5 := bX.trans (b5.mono bX.size)
 obtain ⟨z0, z1, z2⟩ := bl3_ hV5
 have zf : ∀ o, w5.frozen? ⟨w.heap.size + 2, o, none⟩ = false := fun o => Lib.frozen_of_heap hV5 o
 have HQ := hide (set3_all (.int .i64 xk) (.int .i64 xo) (.string xn) hV5 bb5 (Nat.le_add_right _ 2))
 go_wp2
 obtain ⟨q0, q1, q2, qb⟩ := unhide HQ
 exact bodyPost_ret (v := .tuple #[.agg #[.int .i64 xk, .int .i64 xo, .string xn], .int .i64 xe]) (by simp [results, Try.results43, go_sem, q0, q1, q2]) rfl ⟨by rw [unhide HE]; rfl, qb⟩
set_option maxHeartbeats 8000000 in
set_option maxRecDepth 1000000 in
theorem rown_17 (s : SP) (v : Value) (p r : ByteArray) (eb : Bool) (en : Int) (es et ei : ByteArray) (elo : Option Addr) (ell elc : Nat) (ak aq : Int) (an : ByteArray) (bk bq : Int) (bn : ByteArray) (lo : Option Addr) (cap : Nat) (w : World) (_hsm : SmS s) (hs : IsST w v s) (hr : RowT3 w lo [⟨ak, aq, an⟩, ⟨bk, bq, bn⟩]) : Calls Try.prog 43 #[v, .agg #[.int .i64 17, .bool eb, .int .i64 en, .string es, .string et, .string ei, .slice elo ell elc], .slice lo 2 cap] w fun e w' => e = .returned (nodeT s p r 17 es et ei [⟨ak, aq, an⟩, ⟨bk, bq, bn⟩]).ret ∧ Below w.heap.size w w' := by
 obtain ⟨ko, kc, ao, acp, rfl, _, _⟩ := hs.ex2
 obtain ⟨bX, zX, k1, k2, k3⟩ := alloc3 w (.cells #[.slice ko s.ks.length kc, .slice ao s.ac.length acp] 33) (.cells #[.int .i64 17, .bool eb, .int .i64 en, .string es, .string et, .string ei, .slice elo ell elc] 39) (.cells #[.int .i64 0, .int .i64 0, .string ⟨#[]⟩] 54)
 have HS := hide hs
 have HR := hide hr
 obtain ⟨g, off, rfl, hg, hat0⟩ := hr.get (Below.refl _ w) (show 0 < ([⟨ak, aq, an⟩, ⟨bk, bq, bn⟩] : List T3).length by simp)
 have hat0 : AtT3 w g off ⟨ak, aq, an⟩ := by simpa using hat0
 obtain ⟨a0, a1, a2⟩ := hat0
 simp only at a0 a1 a2
 obtain ⟨g', off', eg, _, hat1⟩ := hr.get (Below.refl _ w) (show 1 < ([⟨ak, aq, an⟩, ⟨bk, bq, bn⟩] : List T3).length by simp)
 cases eg
 have hat1 : AtT3 w g (off + 3) ⟨bk, bq, bn⟩ := by simpa using hat1
 obtain ⟨b0, b1, b2⟩ := hat1
 simp only at b0 b1 b2
 clear hs hr
 go_enter Try.func43, Try.ntmps43
 go_upto_region 1 with fail
 generalize ((w.alloc _).alloc _).alloc _ = w1 at *
 clear zX
 have hw1 : w.heap.size ≤ w1.heap.size := bX.size
 have b2 := blw1 w1 (.cells #[.int .i64 0, .int .i64 0, .string ⟨#[]⟩] 54)
 have h2 := alloc_heap w1 (.cells #[.int .i64 0, .int .i64 0, .string ⟨#[]⟩] 54)
 have k4 := h2
 have B2 := b2
 obtain ⟨n0, n1, n2⟩ := bl3_ h2
 have nf : ∀ o, (w1.alloc (.cells #[.int .i64 0, .int .i64 0, .string ⟨#[]⟩] 54)).frozen? ⟨w1.heap.size, o, none⟩ = false := fun o => Lib.frozen_of_heap h2 o
 go_upto_region 2 with fail
 clear n0 n1 n2 nf b2 h2
 generalize w1.alloc _ = w2 at *
 have bX := bX.trans (B2.mono bX.size)
 have k1 := kept_of_below B2 k1
 have k2 := kept_of_below B2 k2
 have k3 := kept_of_below B2 k3
 have hs2 := (unhide HS).below bX
 have hr2 := (unhide HR).below bX
 clear B2
 have ce0 : w2.cell? ⟨w.heap.size + 1, 0, none⟩ = some (.int .i64 17) := lc_ k2 rfl
 have ce3 : w2.cell? ⟨w.heap.size + 1, 3, none⟩ = some (.string es) := lc_ k2 rfl
 have a0 := (bX.cell (p := ⟨g, off, none⟩) hg).trans a0
 have a1 := (bX.cell (p := ⟨g, off + 1, none⟩) hg).trans a1
 have a2 := (bX.cell (p := ⟨g, off + 2, none⟩) hg).trans a2
 have b0 := (bX.cell (p := ⟨g, off + 3, none⟩) hg).trans b0
 have b1 := (bX.cell (p := ⟨g, off + 4, none⟩) hg).trans b1
 have b2 := (bX.cell (p := ⟨g, off + 5, none⟩) hg).trans b2
 have C := rneed_any [⟨ak, aq, an⟩, ⟨bk, bq, bn⟩] _ cap 2 2 1 w2 rfl (by simp) hr2
 have HE : nodeT s p r 17 es et ei [⟨ak, aq, an⟩, ⟨bk, bq, bn⟩] = needT [⟨ak, aq, an⟩, ⟨bk, bq, bn⟩] 2 1 := by
  rw [need_two]
  rfl
 obtain ⟨x, hx⟩ : ∃ x : TR, x = needT [⟨ak, aq, an⟩, ⟨bk, bq, bn⟩] 2 1 := ⟨_, rfl⟩
 rw [← hx] at C HE
 obtain ⟨⟨xk, xo, xn⟩, xe⟩ := x
 have HE := hide HE
 clear hx hs2 hr2
 unfold TR.ret at C
 simp only at C
 go_wp2_with fail
 refine C.mono ?_
 clear C
 rintro e9 w5 ⟨rfl, b5⟩
 have hV5 := kept_of_below b5 k3
 have bb5 := bX.trans (b5.mono bX.size)
 obtain ⟨z0, z1, z2⟩ := bl3_ hV5
 have zf : ∀ o, w5.frozen? ⟨w.heap.size + 2, o, none⟩ = false := fun o => Lib.frozen_of_heap hV5 o
 have HQ := hide (set3_all (.int .i64 xk) (.int .i64 xo) (.string xn) hV5 bb5 (Nat.le_add_right _ 2))
 go_wp2
 obtain ⟨q0, q1, q2, qb⟩ := unhide HQ
 exact bodyPost_ret (v := .tuple #[.agg #[.int .i64 xk, .int .i64 xo, .string xn], .int .i64 xe]) (by simp [results, Try.results43, go_sem, q0, q1, q2]) rfl ⟨by rw [unhide HE]; rfl, qb⟩
set_option maxHeartbeats 8000000 in
set_option maxRecDepth 1000000 in
theorem rown_18 (s : SP) (v : Value) (p r : ByteArray) (eb : Bool) (en : Int) (es et ei : ByteArray) (elo : Option Addr) (ell elc : Nat) (ak aq : Int) (an : ByteArray) (bk bq : Int) (bn : ByteArray) (lo : Option Addr) (cap : Nat) (w : World) (_hsm : SmS s) (hs : IsST w v s) (hr : RowT3 w lo [⟨ak, aq, an⟩, ⟨bk, bq, bn⟩]) : Calls Try.prog 43 #[v, .agg #[.int .i64 18, .bool eb, .int .i64 en, .string es, .string et, .string ei, .slice elo ell elc], .slice lo 2 cap] w fun e w' => e = .returned (nodeT s p r 18 es et ei [⟨ak, aq, an⟩, ⟨bk, bq, bn⟩]).ret ∧ Below w.heap.size w w' := by
 obtain ⟨ko, kc, ao, acp, rfl, _, _⟩ := hs.ex2
 obtain ⟨bX, zX, k1, k2, k3⟩ := alloc3 w (.cells #[.slice ko s.ks.length kc, .slice ao s.ac.length acp] 33) (.cells #[.int .i64 18, .bool eb, .int .i64 en, .string es, .string et, .string ei, .slice elo ell elc] 39) (.cells #[.int .i64 0, .int .i64 0, .string ⟨#[]⟩] 54)
 have HS := hide hs
 have HR := hide hr
 obtain ⟨g, off, rfl, hg, hat0⟩ := hr.get (Below.refl _ w) (show 0 < ([⟨ak, aq, an⟩, ⟨bk, bq, bn⟩] : List T3).length by simp)
 have hat0 : AtT3 w g off ⟨ak, aq, an⟩ := by simpa using hat0
 obtain ⟨a0, a1, a2⟩ := hat0
 simp only at a0 a1 a2
 obtain ⟨g', off', eg, _, hat1⟩ := hr.get (Below.refl _ w) (show 1 < ([⟨ak, aq, an⟩, ⟨bk, bq, bn⟩] : List T3).length by simp)
 cases eg
 have hat1 : AtT3 w g (off + 3) ⟨bk, bq, bn⟩ := by simpa using hat1
 obtain ⟨b0, b1, b2⟩ := hat1
 simp only at b0 b1 b2
 clear hs hr
 go_enter Try.func43, Try.ntmps43
 go_upto_region 1 with fail
 generalize ((w.alloc _).alloc _).alloc _ = w1 at *
 clear zX
 have hw1 : w.heap.size ≤ w1.heap.size := bX.size
 have b2 := blw1 w1 (.cells #[.int .i64 0, .int .i64 0, .string ⟨#[]⟩] 54)
 have h2 := alloc_heap w1 (.cells #[.int .i64 0, .int .i64 0, .string ⟨#[]⟩] 54)
 have k4 := h2
 have B2 := b2
 obtain ⟨n0, n1, n2⟩ := bl3_ h2
 have nf : ∀ o, (w1.alloc (.cells #[.int .i64 0, .int .i64 0, .string ⟨#[]⟩] 54)).frozen? ⟨w1.heap.size, o, none⟩ = false := fun o => Lib.frozen_of_heap h2 o
 go_upto_region 2 with fail
 clear n0 n1 n2 nf b2 h2
 generalize w1.alloc _ = w2 at *
 have bX := bX.trans (B2.mono bX.size)
 have k1 := kept_of_below B2 k1
 have k2 := kept_of_below B2 k2
 have k3 := kept_of_below B2 k3
 have hs2 := (unhide HS).below bX
 have hr2 := (unhide HR).below bX
 clear B2
 have ce0 : w2.cell? ⟨w.heap.size + 1, 0, none⟩ = some (.int .i64 18) := lc_ k2 rfl
 have ce3 : w2.cell? ⟨w.heap.size + 1, 3, none⟩ = some (.string es) := lc_ k2 rfl
 have a0 := (bX.cell (p := ⟨g, off, none⟩) hg).trans a0
 have a1 := (bX.cell (p := ⟨g, off + 1, none⟩) hg).trans a1
 have a2 := (bX.cell (p := ⟨g, off + 2, none⟩) hg).trans a2
 have b0 := (bX.cell (p := ⟨g, off + 3, none⟩) hg).trans b0
 have b1 := (bX.cell (p := ⟨g, off + 4, none⟩) hg).trans b1
 have b2 := (bX.cell (p := ⟨g, off + 5, none⟩) hg).trans b2
 have C := rneed_any [⟨ak, aq, an⟩, ⟨bk, bq, bn⟩] _ cap 2 2 1 w2 rfl (by simp) hr2
 have HE : nodeT s p r 18 es et ei [⟨ak, aq, an⟩, ⟨bk, bq, bn⟩] = needT [⟨ak, aq, an⟩, ⟨bk, bq, bn⟩] 2 1 := by
  rw [need_two]
  rfl
 obtain ⟨x, hx⟩ : ∃ x : TR, x = needT [⟨ak, aq, an⟩, ⟨bk, bq, bn⟩] 2 1 := ⟨_, rfl⟩
 rw [← hx] at C HE
 obtain ⟨⟨xk, xo, xn⟩, xe⟩ := x
 have HE := hide HE
 clear hx hs2 hr2
 unfold TR.ret at C
 simp only at C
 go_wp2_with fail
 refine C.mono ?_
 clear C
 rintro e9 w5 ⟨rfl, b5⟩
 have hV5 := kept_of_below b5 k3
 have bb5 := bX.trans (b5.mono bX.size)
 obtain ⟨z0, z1, z2⟩ := bl3_ hV5
 have zf : ∀ o, w5.frozen? ⟨w.heap.size + 2, o, none⟩ = false := fun o => Lib.frozen_of_heap hV5 o
 have HQ := hide (set3_all (.int .i64 xk) (.int .i64 xo) (.string xn) hV5 bb5 (Nat.le_add_right _ 2))
 go_wp2
 obtain ⟨q0, q1, q2, qb⟩ := unhide HQ
 exact bodyPost_ret (v := .tuple #[.agg #[.int .i64 xk, .int .i64 xo, .string xn], .int .i64 xe]) (by simp [results, Try.results43, go_sem, q0, q1, q2]) rfl ⟨by rw [unhide HE]; rfl, qb⟩
set_option maxHeartbeats 8000000 in
set_option maxRecDepth 1000000 in
theorem rown_19 (s : SP) (v : Value) (p r : ByteArray) (eb : Bool) (en : Int) (es et ei : ByteArray) (elo : Option Addr) (ell elc : Nat) (ak aq : Int) (an : ByteArray) (bk bq : Int) (bn : ByteArray) (lo : Option Addr) (cap : Nat) (w : World) (_hsm : SmS s) (hs : IsST w v s) (hr : RowT3 w lo [⟨ak, aq, an⟩, ⟨bk, bq, bn⟩]) : Calls Try.prog 43 #[v, .agg #[.int .i64 19, .bool eb, .int .i64 en, .string es, .string et, .string ei, .slice elo ell elc], .slice lo 2 cap] w fun e w' => e = .returned (nodeT s p r 19 es et ei [⟨ak, aq, an⟩, ⟨bk, bq, bn⟩]).ret ∧ Below w.heap.size w w' := by
 obtain ⟨ko, kc, ao, acp, rfl, _, _⟩ := hs.ex2
 obtain ⟨bX, zX, k1, k2, k3⟩ := alloc3 w (.cells #[.slice ko s.ks.length kc, .slice ao s.ac.length acp] 33) (.cells #[.int .i64 19, .bool eb, .int .i64 en, .string es, .string et, .string ei, .slice elo ell elc] 39) (.cells #[.int .i64 0, .int .i64 0, .string ⟨#[]⟩] 54)
 have HS := hide hs
 have HR := hide hr
 obtain ⟨g, off, rfl, hg, hat0⟩ := hr.get (Below.refl _ w) (show 0 < ([⟨ak, aq, an⟩, ⟨bk, bq, bn⟩] : List T3).length by simp)
 have hat0 : AtT3 w g off ⟨ak, aq, an⟩ := by simpa using hat0
 obtain ⟨a0, a1, a2⟩ := hat0
 simp only at a0 a1 a2
 obtain ⟨g', off', eg, _, hat1⟩ := hr.get (Below.refl _ w) (show 1 < ([⟨ak, aq, an⟩, ⟨bk, bq, bn⟩] : List T3).length by simp)
 cases eg
 have hat1 : AtT3 w g (off + 3) ⟨bk, bq, bn⟩ := by simpa using hat1
 obtain ⟨b0, b1, b2⟩ := hat1
 simp only at b0 b1 b2
 clear hs hr
 go_enter Try.func43, Try.ntmps43
 go_upto_region 1 with fail
 generalize ((w.alloc _).alloc _).alloc _ = w1 at *
 clear zX
 have hw1 : w.heap.size ≤ w1.heap.size := bX.size
 have b2 := blw1 w1 (.cells #[.int .i64 0, .int .i64 0, .string ⟨#[]⟩] 54)
 have h2 := alloc_heap w1 (.cells #[.int .i64 0, .int .i64 0, .string ⟨#[]⟩] 54)
 have k4 := h2
 have B2 := b2
 obtain ⟨n0, n1, n2⟩ := bl3_ h2
 have nf : ∀ o, (w1.alloc (.cells #[.int .i64 0, .int .i64 0, .string ⟨#[]⟩] 54)).frozen? ⟨w1.heap.size, o, none⟩ = false := fun o => Lib.frozen_of_heap h2 o
 go_upto_region 2 with fail
 clear n0 n1 n2 nf b2 h2
 generalize w1.alloc _ = w2 at *
 have bX := bX.trans (B2.mono bX.size)
 have k1 := kept_of_below B2 k1
 have k2 := kept_of_below B2 k2
 have k3 := kept_of_below B2 k3
 have hs2 := (unhide HS).below bX
 have hr2 := (unhide HR).below bX
 clear B2
 have ce0 : w2.cell? ⟨w.heap.size + 1, 0, none⟩ = some (.int .i64 19) := lc_ k2 rfl
 have ce3 : w2.cell? ⟨w.heap.size + 1, 3, none⟩ = some (.string es) := lc_ k2 rfl
 have a0 := (bX.cell (p := ⟨g, off, none⟩) hg).trans a0
 have a1 := (bX.cell (p := ⟨g, off + 1, none⟩) hg).trans a1
 have a2 := (bX.cell (p := ⟨g, off + 2, none⟩) hg).trans a2
 have b0 := (bX.cell (p := ⟨g, off + 3, none⟩) hg).trans b0
 have b1 := (bX.cell (p := ⟨g, off + 4, none⟩) hg).trans b1
 have b2 := (bX.cell (p := ⟨g, off + 5, none⟩) hg).trans b2
 have C := rneed_any [⟨ak, aq, an⟩, ⟨bk, bq, bn⟩] _ cap 2 2 1 w2 rfl (by simp) hr2
 have HE : nodeT s p r 19 es et ei [⟨ak, aq, an⟩, ⟨bk, bq, bn⟩] = needT [⟨ak, aq, an⟩, ⟨bk, bq, bn⟩] 2 1 := by
  rw [need_two]
  rfl
 obtain ⟨x, hx⟩ : ∃ x : TR, x = needT [⟨ak, aq, an⟩, ⟨bk, bq, bn⟩] 2 1 := ⟨_, rfl⟩
 rw [← hx] at C HE
 obtain ⟨⟨xk, xo, xn⟩, xe⟩ := x
 have HE := hide HE
 clear hx hs2 hr2
 unfold TR.ret at C
 simp only at C
 go_wp2_with fail
 refine C.mono ?_
 clear C
 rintro e9 w5 ⟨rfl, b5⟩
 have hV5 := kept_of_below b5 k3
 have bb5 := bX.trans (b5.mono bX.size)
 obtain ⟨z0, z1, z2⟩ := bl3_ hV5
 have zf : ∀ o, w5.frozen? ⟨w.heap.size + 2, o, none⟩ = false := fun o => Lib.frozen_of_heap hV5 o
 have HQ := hide (set3_all (.int .i64 xk) (.int .i64 xo) (.string xn) hV5 bb5 (Nat.le_add_right _ 2))
 go_wp2
 obtain ⟨q0, q1, q2, qb⟩ := unhide HQ
 exact bodyPost_ret (v := .tuple #[.agg #[.int .i64 xk, .int .i64 xo, .string xn], .int .i64 xe]) (by simp [results, Try.results43, go_sem, q0, q1, q2]) rfl ⟨by rw [unhide HE]; rfl, qb⟩
end Go.Proofs.Ytagnbpobcijakaa

namespace Go.Proofs.Ytagnbpobcijakaa
open Go.RowKit Go.Sort

set_option maxHeartbeats 8000000 in
set_option maxRecDepth 1000000 in
theorem rown_23 (s : SP) (v : Value) (p r : ByteArray) (eb : Bool) (en : Int) (es et ei : ByteArray) (elo : Option Addr) (ell elc : Nat) (ak aq : Int) (an : ByteArray) (bk bq : Int) (bn : ByteArray) (lo : Option Addr) (cap : Nat) (w : World) (_hsm : SmS s) (hs : IsST w v s) (hr : RowT3 w lo [⟨ak, aq, an⟩, ⟨bk, bq, bn⟩]) : Calls Try.prog 43 #[v, .agg #[.int .i64 23, .bool eb, .int .i64 en, .string es, .string et, .string ei, .slice elo ell elc], .slice lo 2 cap] w fun e w' => e = .returned (nodeT s p r 23 es et ei [⟨ak, aq, an⟩, ⟨bk, bq, bn⟩]).ret ∧ Below w.heap.size w w' := by
 obtain ⟨ko, kc, ao, acp, rfl, _, _⟩ := hs.ex2
 obtain ⟨bX, zX, k1, k2, k3⟩ := alloc3 w (.cells #[.slice ko s.ks.length kc, .slice ao s.ac.length acp] 33) (.cells #[.int .i64 23, .bool eb, .int .i64 en, .string es, .string et, .string ei, .slice elo ell elc] 39) (.cells #[.int .i64 0, .int .i64 0, .string ⟨#[]⟩] 54)
 have HS := hide hs
 have HR := hide hr
 obtain ⟨g, off, rfl, hg, hat0⟩ := hr.get (Below.refl _ w) (show 0 < ([⟨ak, aq, an⟩, ⟨bk, bq, bn⟩] : List T3).length by simp)
 have hat0 : AtT3 w g off ⟨ak, aq, an⟩ := by simpa using hat0
 obtain ⟨a0, a1, a2⟩ := hat0
 simp only at a0 a1 a2
 obtain ⟨g', off', eg, _, hat1⟩ := hr.get (Below.refl _ w) (show 1 < ([⟨ak, aq, an⟩, ⟨bk, bq, bn⟩] : List T3).length by simp)
 cases eg
 have hat1 : AtT3 w g (off + 3) ⟨bk, bq, bn⟩ := by simpa using hat1
 obtain ⟨b0, b1, b2⟩ := hat1
 simp only at b0 b1 b2
 clear hs hr
 go_enter Try.func43, Try.ntmps43
 go_upto_region 1 with fail
 generalize ((w.alloc _).alloc _).alloc _ = w1 at *
 clear zX
 have hw1 : w.heap.size ≤ w1.heap.size := bX.size
 have b2 := blw1 w1 (.cells #[.int .i64 0, .int .i64 0, .string ⟨#[]⟩] 54)
 have h2 := alloc_heap w1 (.cells #[.int .i64 0, .int .i64 0, .string ⟨#[]⟩] 54)
 have k4 := h2
 have B2 := b2
 obtain ⟨n0, n1, n2⟩ := bl3_ h2
 have nf : ∀ o, (w1.alloc (.cells #[.int .i64 0, .int .i64 0, .string ⟨#[]⟩] 54)).frozen? ⟨w1.heap.size, o, none⟩ = false := fun o => Lib.frozen_of_heap h2 o
 go_upto_region 2 with fail
 clear n0 n1 n2 nf b2 h2
 generalize w1.alloc _ = w2 at *
 have bX := bX.trans (B2.mono bX.size)
 have k1 := kept_of_below B2 k1
 have k2 := kept_of_below B2 k2
 have k3 := kept_of_below B2 k3
 have hs2 := (unhide HS).below bX
 have hr2 := (unhide HR).below bX
 clear B2
 have ce0 : w2.cell? ⟨w.heap.size + 1, 0, none⟩ = some (.int .i64 23) := lc_ k2 rfl
 have ce3 : w2.cell? ⟨w.heap.size + 1, 3, none⟩ = some (.string es) := lc_ k2 rfl
 have a0 := (bX.cell (p := ⟨g, off, none⟩) hg).trans a0
 have a1 := (bX.cell (p := ⟨g, off + 1, none⟩) hg).trans a1
 have a2 := (bX.cell (p := ⟨g, off + 2, none⟩) hg).trans a2
 have b0 := (bX.cell (p := ⟨g, off + 3, none⟩) hg).trans b0
 have b1 := (bX.cell (p := ⟨g, off + 4, none⟩) hg).trans b1
 have b2 := (bX.cell (p := ⟨g, off + 5, none⟩) hg).trans b2
 have C := rneed_any [⟨ak, aq, an⟩, ⟨bk, bq, bn⟩] _ cap 2 1 1 w2 rfl (by simp) hr2
 have HE : nodeT s p r 23 es et ei [⟨ak, aq, an⟩, ⟨bk, bq, bn⟩] = needT [⟨ak, aq, an⟩, ⟨bk, bq, bn⟩] 1 1 := by
  rw [need_two]
  rfl
 obtain ⟨x, hx⟩ : ∃ x : TR, x = needT [⟨ak, aq, an⟩, ⟨bk, bq, bn⟩] 1 1 := ⟨_, rfl⟩
 rw [← hx] at C HE
 obtain ⟨⟨xk, xo, xn⟩, xe⟩ := x
 have HE := hide HE
 clear hx hs2 hr2
 unfold TR.ret at C
 simp only at C
 go_wp2_with fail
 refine C.mono ?_
 clear C
 rintro e9 w5 ⟨rfl, b5⟩
 have hV5 := kept_of_below b5 k3
 have bb5 := bX.trans (b5.mono bX.size)
 obtain ⟨z0, z1, z2⟩ := bl3_ hV5
 have zf : ∀ o, w5.frozen? ⟨w.heap.size + 2, o, none⟩ = false := fun o => Lib.frozen_of_heap hV5 o
 have HQ := hide (set3_all (.int .i64 xk) (.int .i64 xo) (.string xn) hV5 bb5 (Nat.le_add_right _ 2))
 go_wp2
 obtain ⟨q0, q1, q2, qb⟩ := unhide HQ
 exact bodyPost_ret (v := .tuple #[.agg #[.int .i64 xk, .int .i64 xo, .string xn], .int .i64 xe]) (by simp [results, Try.results43, go_sem, q0, q1, q2]) rfl ⟨by rw [unhide HE]; rfl, qb⟩
set_option maxHeartbeats 8000000 in
set_option maxRecDepth 1000000 in
theorem rown_24 (s : SP) (v : Value) (p r : ByteArray) (eb : Bool) (en : Int) (es et ei : ByteArray) (elo : Option Addr) (ell elc : Nat) (ak aq : Int) (an : ByteArray) (bk bq : Int) (bn : ByteArray) (lo : Option Addr) (cap : Nat) (w : World) (_hsm : SmS s) (hs : IsST w v s) (hr : RowT3 w lo [⟨ak, aq, an⟩, ⟨bk, bq, bn⟩]) : Calls Try.prog 43 #[v, .agg #[.int .i64 24, .bool eb, .int .i64 en, .string es, .string et, .string ei, .slice elo ell elc], .slice lo 2 cap] w fun e w' => e = .returned (nodeT s p r 24 es et ei [⟨ak, aq, an⟩, ⟨bk, bq, bn⟩]).ret ∧ Below w.heap.size w w' := by
 obtain ⟨ko, kc, ao, acp, rfl, _, _⟩ := hs.ex2
 obtain ⟨bX, zX, k1, k2, k3⟩ := alloc3 w (.cells #[.slice ko s.ks.length kc, .slice ao s.ac.length acp] 33) (.cells #[.int .i64 24, .bool eb, .int .i64 en, .string es, .string et, .string ei, .slice elo ell elc] 39) (.cells #[.int .i64 0, .int .i64 0, .string ⟨#[]⟩] 54)
 have HS := hide hs
 have HR := hide hr
 obtain ⟨g, off, rfl, hg, hat0⟩ := hr.get (Below.refl _ w) (show 0 < ([⟨ak, aq, an⟩, ⟨bk, bq, bn⟩] : List T3).length by simp)
 have hat0 : AtT3 w g off ⟨ak, aq, an⟩ := by simpa using hat0
 obtain ⟨a0, a1, a2⟩ := hat0
 simp only at a0 a1 a2
 obtain ⟨g', off', eg, _, hat1⟩ := hr.get (Below.refl _ w) (show 1 < ([⟨ak, aq, an⟩, ⟨bk, bq, bn⟩] : List T3).length by simp)
 cases eg
 have hat1 : AtT3 w g (off + 3) ⟨bk, bq, bn⟩ := by simpa using hat1
 obtain ⟨b0, b1, b2⟩ := hat1
 simp only at b0 b1 b2
 clear hs hr
 go_enter Try.func43, Try.ntmps43
 go_upto_region 1 with fail
 generalize ((w.alloc _).alloc _).alloc _ = w1 at *
 clear zX
 have hw1 : w.heap.size ≤ w1.heap.size := bX.size
 have b2 := blw1 w1 (.cells #[.int .i64 0, .int .i64 0, .string ⟨#[]⟩] 54)
 have h2 := alloc_heap w1 (.cells #[.int .i64 0, .int .i64 0, .string ⟨#[]⟩] 54)
 have k4 := h2
 have B2 := b2
 obtain ⟨n0, n1, n2⟩ := bl3_ h2
 have nf : ∀ o, (w1.alloc (.cells #[.int .i64 0, .int .i64 0, .string ⟨#[]⟩] 54)).frozen? ⟨w1.heap.size, o, none⟩ = false := fun o => Lib.frozen_of_heap h2 o
 go_upto_region 2 with fail
 clear n0 n1 n2 nf b2 h2
 generalize w1.alloc _ = w2 at *
 have bX := bX.trans (B2.mono bX.size)
 have k1 := kept_of_below B2 k1
 have k2 := kept_of_below B2 k2
 have k3 := kept_of_below B2 k3
 have hs2 := (unhide HS).below bX
 have hr2 := (unhide HR).below bX
 clear B2
 have ce0 : w2.cell? ⟨w.heap.size + 1, 0, none⟩ = some (.int .i64 24) := lc_ k2 rfl
 have ce3 : w2.cell? ⟨w.heap.size + 1, 3, none⟩ = some (.string es) := lc_ k2 rfl
 have a0 := (bX.cell (p := ⟨g, off, none⟩) hg).trans a0
 have a1 := (bX.cell (p := ⟨g, off + 1, none⟩) hg).trans a1
 have a2 := (bX.cell (p := ⟨g, off + 2, none⟩) hg).trans a2
 have b0 := (bX.cell (p := ⟨g, off + 3, none⟩) hg).trans b0
 have b1 := (bX.cell (p := ⟨g, off + 4, none⟩) hg).trans b1
 have b2 := (bX.cell (p := ⟨g, off + 5, none⟩) hg).trans b2
 have C := rneed_any [⟨ak, aq, an⟩, ⟨bk, bq, bn⟩] _ cap 2 1 1 w2 rfl (by simp) hr2
 have HE : nodeT s p r 24 es et ei [⟨ak, aq, an⟩, ⟨bk, bq, bn⟩] = needT [⟨ak, aq, an⟩, ⟨bk, bq, bn⟩] 1 1 := by
  rw [need_two]
  rfl
 obtain ⟨x, hx⟩ : ∃ x : TR, x = needT [⟨ak, aq, an⟩, ⟨bk, bq, bn⟩] 1 1 := ⟨_, rfl⟩
 rw [← hx] at C HE
 obtain ⟨⟨xk, xo, xn⟩, xe⟩ := x
 have HE := hide HE
 clear hx hs2 hr2
 unfold TR.ret at C
 simp only at C
 go_wp2_with fail
 refine C.mono ?_
 clear C
 rintro e9 w5 ⟨rfl, b5⟩
 have hV5 := kept_of_below b5 k3
 have bb5 := bX.trans (b5.mono bX.size)
 obtain ⟨z0, z1, z2⟩ := bl3_ hV5
 have zf : ∀ o, w5.frozen? ⟨w.heap.size + 2, o, none⟩ = false := fun o => Lib.frozen_of_heap hV5 o
 have HQ := hide (set3_all (.int .i64 xk) (.int .i64 xo) (.string xn) hV5 bb5 (Nat.le_add_right _ 2))
 go_wp2
 obtain ⟨q0, q1, q2, qb⟩ := unhide HQ
 exact bodyPost_ret (v := .tuple #[.agg #[.int .i64 xk, .int .i64 xo, .string xn], .int .i64 xe]) (by simp [results, Try.results43, go_sem, q0, q1, q2]) rfl ⟨by rw [unhide HE]; rfl, qb⟩
end Go.Proofs.Ytagnbpobcijakaa

namespace Go.Proofs.Ytagnbpobcijakaa
open Go.RowKit Go.Sort

set_option maxHeartbeats 8000000 in
set_option maxRecDepth 1000000 in
theorem rown_20 (s : SP) (v : Value) (p r : ByteArray) (eb : Bool) (en : Int) (es et ei : ByteArray) (elo : Option Addr) (ell elc : Nat) (ak aq : Int) (an : ByteArray) (bk bq : Int) (bn : ByteArray) (lo : Option Addr) (cap : Nat) (w : World) (_hsm : SmS s) (hs : IsST w v s) (hr : RowT3 w lo [⟨ak, aq, an⟩, ⟨bk, bq, bn⟩]) : Calls Try.prog 43 #[v, .agg #[.int .i64 20, .bool eb, .int .i64 en, .string es, .string et, .string ei, .slice elo ell elc], .slice lo 2 cap] w fun e w' => e = .returned (nodeT s p r 20 es et ei [⟨ak, aq, an⟩, ⟨bk, bq, bn⟩]).ret ∧ Below w.heap.size w w' := by
 obtain ⟨ko, kc, ao, acp, rfl, _, _⟩ := hs.ex2
 obtain ⟨bX, zX, k1, k2, k3⟩ := alloc3 w (.cells #[.slice ko s.ks.length kc, .slice ao s.ac.length acp] 33) (.cells #[.int .i64 20, .bool eb, .int .i64 en, .string es, .string et, .string ei, .slice elo ell elc] 39) (.cells #[.int .i64 0, .int .i64 0, .string ⟨#[]⟩] 54)
 have HS := hide hs
 have HR := hide hr
 obtain ⟨g, off, rfl, hg, hat0⟩ := hr.get (Below.refl _ w) (show 0 < ([⟨ak, aq, an⟩, ⟨bk, bq, bn⟩] : List T3).length by simp)
 have hat0 : AtT3 w g off ⟨ak, aq, an⟩ := by simpa using hat0
 obtain ⟨a0, a1, a2⟩ := hat0
 simp only at a0 a1 a2
 obtain ⟨g', off', eg, _, hat1⟩ := hr.get (Below.refl _ w) (show 1 < ([⟨ak, aq, an⟩, ⟨bk, bq, bn⟩] : List T3).length by simp)
 cases eg
 have hat1 : AtT3 w g (off + 3) ⟨bk, bq, bn⟩ := by simpa using hat1
 obtain ⟨b0, b1, b2⟩ := hat1
 simp only at b0 b1 b2
 clear hs hr
 go_enter Try.func43, Try.ntmps43
 go_upto_region 1 with fail
 generalize ((w.alloc _).alloc _).alloc _ = w1 at *
 clear zX
 have hw1 : w.heap.size ≤ w1.heap.size := bX.size
 have b2 := blw1 w1 (.cells #[.int .i64 0, .int .i64 0, .string ⟨#[]⟩] 54)
 have h2 := alloc_heap w1 (.cells #[.int .i64 0, .int .i64 0, .string ⟨#[]⟩] 54)
 have k4 := h2
 have B2 := b2
 obtain ⟨n0, n1, n2⟩ := bl3_ h2
 have nf : ∀ o, (w1.alloc (.cells #[.int .i64 0, .int .i64 0, .string ⟨#[]⟩] 54)).frozen? ⟨w1.heap.size, o, none⟩ = false := fun o => Lib.frozen_of_heap h2 o
 go_upto_region 2 with fail
 clear n0 n1 n2 nf b2 h2
 generalize w1.alloc _ = w2 at *
 have bX := bX.trans (B2.mono bX.size)
 have k1 := kept_of_below B2 k1
 have k2 := kept_of_below B2 k2
 have k3 := kept_of_below B2 k3
 have hs2 := (unhide HS).below bX
 have hr2 := (unhide HR).below bX
 clear B2
 have ce0 : w2.cell? ⟨w.heap.size + 1, 0, none⟩ = some (.int .i64 20) := lc_ k2 rfl
 have ce3 : w2.cell? ⟨w.heap.size + 1, 3, none⟩ = some (.string es) := lc_ k2 rfl
 have a0 := (bX.cell (p := ⟨g, off, none⟩) hg).trans a0
 have a1 := (bX.cell (p := ⟨g, off + 1, none⟩) hg).trans a1
 have a2 := (bX.cell (p := ⟨g, off + 2, none⟩) hg).trans a2
 have b0 := (bX.cell (p := ⟨g, off + 3, none⟩) hg).trans b0
 have b1 := (bX.cell (p := ⟨g, off + 4, none⟩) hg).trans b1
 have b2 := (bX.cell (p := ⟨g, off + 5, none⟩) hg).trans b2
 clear hs2 hr2
 go_upto_region 45 with fail
 have BT := binNeqT3 ⟨ak, aq, an⟩ ⟨bk, bq, bn⟩
 simp only at BT
 by_cases h0 : (⟨ak, aq, an⟩ : T3) = ⟨bk, bq, bn⟩
 ·simp only [decide_eq_true h0, Bool.not_true] at BT
  have Hh0 := hide h0
  clear h0
  have qa0 := cell_regrown a0
  have qa1 := cell_regrown a1
  have qa2 := cell_regrown a2
  have qb0 := cell_regrown b0
  have qb1 := cell_regrown b1
  have qb2 := cell_regrown b2
  clear a0 a1 a2 b0 b1 b2
  refine wp_region_quiet_below (by kernel_rfl) (by kernel_rfl) ?_
  repeat (first | go_big_quiet_step (fail) | quiet_step (fail))
  refine wpQuiet_nil ?_
  intro _ hw'
  obtain ⟨⟨dq2, osq2⟩, hw''⟩ := hw'
  subst hw''
  have b11 := below_regrown w2 dq2 osq2
  generalize grow (redrawn w2 dq2) osq2 = w6 at *
  clear qa0 qa1 qa2 qb0 qb1 qb2
  have k3 := kept_of_below b11 k3
  have k4 := kept_of_below b11 k4
  have bX := bX.trans (b11.mono bX.size)
  clear BT
  have C := r11of_any 1 w6
  have HE := hide (show nodeT s p r 20 es et ei [⟨ak, aq, an⟩, ⟨bk, bq, bn⟩] = (⟨1, 0, ⟨#[]⟩⟩, 0) from by show whereT (decide ((⟨ak, aq, an⟩ : T3) = ⟨bk, bq, bn⟩) || (decide (ak = 4) && decide (bk = 4))) 1 = _; rw [decide_eq_true (unhide Hh0)]; rfl)
  go_wp2_with fail
  refine C.mono ?_
  clear C
  rintro e9 w9 ⟨rfl, b9⟩
  have hV9 := kept_of_below b9 k3
  have bb9 := bX.trans (b9.mono bX.size)
  obtain ⟨z0, z1, z2⟩ := bl3_ hV9
  have zf : ∀ o, w9.frozen? ⟨w.heap.size + 2, o, none⟩ = false := fun o => Lib.frozen_of_heap hV9 o
  have HQ := hide (set3_all (.int .i64 1) (.int .i64 0) (.string ⟨#[]⟩) hV9 bb9 (Nat.le_add_right _ 2))
  go_wp2
  obtain ⟨q0, q1, q2, qb⟩ := unhide HQ
  exact bodyPost_ret (v := .tuple #[.agg #[.int .i64 1, .int .i64 0, .string ⟨#[]⟩], .int .i64 0]) (by simp [results, Try.results43, go_sem, q0, q1, q2]) rfl ⟨by rw [unhide HE]; rfl, qb⟩
 ·simp only [decide_eq_false h0, Bool.not_false] at BT
  have Hh0 := hide h0
  clear h0
  by_cases h1 : ak = 4
  ·have gh1 : (ak == 4) = true := by simpa using h1
   have nh1 : (ak != 4) = false := by simp [h1]
   have Hh1 := hide h1
   clear h1
   by_cases h2 : bk = 4
   ·have gh2 : (bk == 4) = true := by simpa using h2
    have nh2 : (bk != 4) = false := by simp [h2]
    have Hh2 := hide h2
    clear h2
    have qa0 := cell_regrown a0
    have qa1 := cell_regrown a1
    have qa2 := cell_regrown a2
    have qb0 := cell_regrown b0
    have qb1 := cell_regrown b1
    have qb2 := cell_regrown b2
    clear a0 a1 a2 b0 b1 b2
    refine wp_region_quiet_below (by kernel_rfl) (by kernel_rfl) ?_
    repeat (first | go_big_quiet_step (fail) | quiet_step (fail))
    refine wpQuiet_nil ?_
    intro _ hw'
    obtain ⟨⟨dq2, osq2⟩, hw''⟩ := hw'
    subst hw''
    have b11 := below_regrown w2 dq2 osq2
    generalize grow (redrawn w2 dq2) osq2 = w6 at *
    clear qa0 qa1 qa2 qb0 qb1 qb2
    have k3 := kept_of_below b11 k3
    have k4 := kept_of_below b11 k4
    have bX := bX.trans (b11.mono bX.size)
    clear BT
    have C := r11of_any 1 w6
    have HE := hide (show nodeT s p r 20 es et ei [⟨ak, aq, an⟩, ⟨bk, bq, bn⟩] = (⟨1, 0, ⟨#[]⟩⟩, 0) from by show whereT (decide ((⟨ak, aq, an⟩ : T3) = ⟨bk, bq, bn⟩) || (decide (ak = 4) && decide (bk = 4))) 1 = _; rw [decide_eq_false (unhide Hh0), decide_eq_true (unhide Hh1), decide_eq_true (unhide Hh2)]; rfl)
    go_wp2_with fail
    refine C.mono ?_
    clear C
    rintro e9 w9 ⟨rfl, b9⟩
    have hV9 := kept_of_below b9 k3
    have bb9 := bX.trans (b9.mono bX.size)
    obtain ⟨z0, z1, z2⟩ := bl3_ hV9
    have zf : ∀ o, w9.frozen? ⟨w.heap.size + 2, o, none⟩ = false := fun o => Lib.frozen_of_heap hV9 o
    have HQ := hide (set3_all (.int .i64 1) (.int .i64 0) (.string ⟨#[]⟩) hV9 bb9 (Nat.le_add_right _ 2))
    go_wp2
    obtain ⟨q0, q1, q2, qb⟩ := unhide HQ
    exact bodyPost_ret (v := .tuple #[.agg #[.int .i64 1, .int .i64 0, .string ⟨#[]⟩], .int .i64 0]) (by simp [results, Try.results43, go_sem, q0, q1, q2]) rfl ⟨by rw [unhide HE]; rfl, qb⟩
   ·have gh2 : (bk == 4) = false := by simpa using h2
    have nh2 : (bk != 4) = true := by simpa using h2
    have Hh2 := hide h2
    clear h2
    have qa0 := cell_regrown a0
    have qa1 := cell_regrown a1
    have qa2 := cell_regrown a2
    have qb0 := cell_regrown b0
    have qb1 := cell_regrown b1
    have qb2 := cell_regrown b2
    clear a0 a1 a2 b0 b1 b2
    refine wp_region_quiet_below (by kernel_rfl) (by kernel_rfl) ?_
    repeat (first | go_big_quiet_step (fail) | quiet_step (fail))
    refine wpQuiet_nil ?_
    intro _ hw'
    obtain ⟨⟨dq2, osq2⟩, hw''⟩ := hw'
    subst hw''
    have b11 := below_regrown w2 dq2 osq2
    generalize grow (redrawn w2 dq2) osq2 = w6 at *
    clear qa0 qa1 qa2 qb0 qb1 qb2
    have k3 := kept_of_below b11 k3
    have k4 := kept_of_below b11 k4
    have bX := bX.trans (b11.mono bX.size)
    clear BT
    obtain ⟨n0, n1, n2⟩ := bl3_ k4
    have HE := hide (show nodeT s p r 20 es et ei [⟨ak, aq, an⟩, ⟨bk, bq, bn⟩] = (⟨0, 0, ⟨#[]⟩⟩, 16) from by show whereT (decide ((⟨ak, aq, an⟩ : T3) = ⟨bk, bq, bn⟩) || (decide (ak = 4) && decide (bk = 4))) 1 = _; rw [decide_eq_false (unhide Hh0), decide_eq_true (unhide Hh1), decide_eq_false (unhide Hh2)]; rfl)
    obtain ⟨z0, z1, z2⟩ := bl3_ k3
    have zf : ∀ o, w6.frozen? ⟨w.heap.size + 2, o, none⟩ = false := fun o => Lib.frozen_of_heap k3 o
    have HQ := hide (set3_all (.int .i64 0) (.int .i64 0) (.string ⟨#[]⟩) k3 bX (Nat.le_add_right _ 2))
    go_wp2
    obtain ⟨q0, q1, q2, qb⟩ := unhide HQ
    exact bodyPost_ret (v := .tuple #[.agg #[.int .i64 0, .int .i64 0, .string ⟨#[]⟩], .int .i64 16]) (by simp [results, Try.results43, go_sem, q0, q1, q2]) rfl ⟨by rw [unhide HE]; rfl, qb⟩
  ·have gh1 : (ak == 4) = false := by simpa using h1
   have nh1 : (ak != 4) = true := by simpa using h1
   have Hh1 := hide h1
   clear h1
   have qa0 := cell_regrown a0
   have qa1 := cell_regrown a1
   have qa2 := cell_regrown a2
   have qb0 := cell_regrown b0
   have qb1 := cell_regrown b1
   have qb2 := cell_regrown b2
   clear a0 a1 a2 b0 b1 b2
   refine wp_region_quiet_below (by kernel_rfl) (by kernel_rfl) ?_
   repeat (first | go_big_quiet_step (fail) | quiet_step (fail))
   refine wpQuiet_nil ?_
   intro _ hw'
   obtain ⟨⟨dq2, osq2⟩, hw''⟩ := hw'
   subst hw''
   have b11 := below_regrown w2 dq2 osq2
   generalize grow (redrawn w2 dq2) osq2 = w6 at *
   clear qa0 qa1 qa2 qb0 qb1 qb2
   have k3 := kept_of_below b11 k3
   have k4 := kept_of_below b11 k4
   have bX := bX.trans (b11.mono bX.size)
   clear BT
   obtain ⟨n0, n1, n2⟩ := bl3_ k4
   have HE := hide (show nodeT s p r 20 es et ei [⟨ak, aq, an⟩, ⟨bk, bq, bn⟩] = (⟨0, 0, ⟨#[]⟩⟩, 16) from by show whereT (decide ((⟨ak, aq, an⟩ : T3) = ⟨bk, bq, bn⟩) || (decide (ak = 4) && decide (bk = 4))) 1 = _; rw [decide_eq_false (unhide Hh0), decide_eq_false (unhide Hh1)]; rfl)
   obtain ⟨z0, z1, z2⟩ := bl3_ k3
   have zf : ∀ o, w6.frozen? ⟨w.heap.size + 2, o, none⟩ = false := fun o => Lib.frozen_of_heap k3 o
   have HQ := hide (set3_all (.int .i64 0) (.int .i64 0) (.string ⟨#[]⟩) k3 bX (Nat.le_add_right _ 2))
   go_wp2
   obtain ⟨q0, q1, q2, qb⟩ := unhide HQ
   exact bodyPost_ret (v := .tuple #[.agg #[.int .i64 0, .int .i64 0, .string ⟨#[]⟩], .int .i64 16]) (by simp [results, Try.results43, go_sem, q0, q1, q2]) rfl ⟨by rw [unhide HE]; rfl, qb⟩
set_option maxHeartbeats 8000000 in
set_option maxRecDepth 1000000 in
theorem rown_21 (s : SP) (v : Value) (p r : ByteArray) (eb : Bool) (en : Int) (es et ei : ByteArray) (elo : Option Addr) (ell elc : Nat) (ak aq : Int) (an : ByteArray) (bk bq : Int) (bn : ByteArray) (lo : Option Addr) (cap : Nat) (w : World) (_hsm : SmS s) (hs : IsST w v s) (hr : RowT3 w lo [⟨ak, aq, an⟩, ⟨bk, bq, bn⟩]) : Calls Try.prog 43 #[v, .agg #[.int .i64 21, .bool eb, .int .i64 en, .string es, .string et, .string ei, .slice elo ell elc], .slice lo 2 cap] w fun e w' => e = .returned (nodeT s p r 21 es et ei [⟨ak, aq, an⟩, ⟨bk, bq, bn⟩]).ret ∧ Below w.heap.size w w' := by
 obtain ⟨ko, kc, ao, acp, rfl, _, _⟩ := hs.ex2
 obtain ⟨bX, zX, k1, k2, k3⟩ := alloc3 w (.cells #[.slice ko s.ks.length kc, .slice ao s.ac.length acp] 33) (.cells #[.int .i64 21, .bool eb, .int .i64 en, .string es, .string et, .string ei, .slice elo ell elc] 39) (.cells #[.int .i64 0, .int .i64 0, .string ⟨#[]⟩] 54)
 have HS := hide hs
 have HR := hide hr
 obtain ⟨g, off, rfl, hg, hat0⟩ := hr.get (Below.refl _ w) (show 0 < ([⟨ak, aq, an⟩, ⟨bk, bq, bn⟩] : List T3).length by simp)
 have hat0 : AtT3 w g off ⟨ak, aq, an⟩ := by simpa using hat0
 obtain ⟨a0, a1, a2⟩ := hat0
 simp only at a0 a1 a2
 obtain ⟨g', off', eg, _, hat1⟩ := hr.get (Below.refl _ w) (show 1 < ([⟨ak, aq, an⟩, ⟨bk, bq, bn⟩] : List T3).length by simp)
 cases eg
 have hat1 : AtT3 w g (off + 3) ⟨bk, bq, bn⟩ := by simpa using hat1
 obtain ⟨b0, b1, b2⟩ := hat1
 simp only at b0 b1 b2
 clear hs hr
 go_enter Try.func43, Try.ntmps43
 go_upto_region 1 with fail
 generalize ((w.alloc _).alloc _).alloc _ = w1 at *
 clear zX
 have hw1 : w.heap.size ≤ w1.heap.size := bX.size
 have b2 := blw1 w1 (.cells #[.int .i64 0, .int .i64 0, .string ⟨#[]⟩] 54)
 have h2 := alloc_heap w1 (.cells #[.int .i64 0, .int .i64 0, .string ⟨#[]⟩] 54)
 have k4 := h2
 have B2 := b2
 obtain ⟨n0, n1, n2⟩ := bl3_ h2
 have nf : ∀ o, (w1.alloc (.cells #[.int .i64 0, .int .i64 0, .string ⟨#[]⟩] 54)).frozen? ⟨w1.heap.size, o, none⟩ = false := fun o => Lib.frozen_of_heap h2 o
 go_upto_region 2 with fail
 clear n0 n1 n2 nf b2 h2
 generalize w1.alloc _ = w2 at *
 have bX := bX.trans (B2.mono bX.size)
 have k1 := kept_of_below B2 k1
 have k2 := kept_of_below B2 k2
 have k3 := kept_of_below B2 k3
 have hs2 := (unhide HS).below bX
 have hr2 := (unhide HR).below bX
 clear B2
 have ce0 : w2.cell? ⟨w.heap.size + 1, 0, none⟩ = some (.int .i64 21) := lc_ k2 rfl
 have ce3 : w2.cell? ⟨w.heap.size + 1, 3, none⟩ = some (.string es) := lc_ k2 rfl
 have a0 := (bX.cell (p := ⟨g, off, none⟩) hg).trans a0
 have a1 := (bX.cell (p := ⟨g, off + 1, none⟩) hg).trans a1
 have a2 := (bX.cell (p := ⟨g, off + 2, none⟩) hg).trans a2
 have b0 := (bX.cell (p := ⟨g, off + 3, none⟩) hg).trans b0
 have b1 := (bX.cell (p := ⟨g, off + 4, none⟩) hg).trans b1
 have b2 := (bX.cell (p := ⟨g, off + 5, none⟩) hg).trans b2
 clear hs2 hr2
 go_upto_region 45 with fail
 have BT := binNeqT3 ⟨ak, aq, an⟩ ⟨bk, bq, bn⟩
 simp only at BT
 by_cases h0 : (⟨ak, aq, an⟩ : T3) = ⟨bk, bq, bn⟩
 ·simp only [decide_eq_true h0, Bool.not_true] at BT
  have Hh0 := hide h0
  clear h0
  have qa0 := cell_regrown a0
  have qa1 := cell_regrown a1
  have qa2 := cell_regrown a2
  have qb0 := cell_regrown b0
  have qb1 := cell_regrown b1
  have qb2 := cell_regrown b2
  clear a0 a1 a2 b0 b1 b2
  refine wp_region_quiet_below (by kernel_rfl) (by kernel_rfl) ?_
  repeat (first | go_big_quiet_step (fail) | quiet_step (fail))
  refine wpQuiet_nil ?_
  intro _ hw'
  obtain ⟨⟨dq2, osq2⟩, hw''⟩ := hw'
  subst hw''
  have b11 := below_regrown w2 dq2 osq2
  generalize grow (redrawn w2 dq2) osq2 = w6 at *
  clear qa0 qa1 qa2 qb0 qb1 qb2
  have k3 := kept_of_below b11 k3
  have k4 := kept_of_below b11 k4
  have bX := bX.trans (b11.mono bX.size)
  clear BT
  have C := r11of_any 1 w6
  have HE := hide (show nodeT s p r 21 es et ei [⟨ak, aq, an⟩, ⟨bk, bq, bn⟩] = (⟨1, 0, ⟨#[]⟩⟩, 0) from by show whereT (decide ((⟨ak, aq, an⟩ : T3) = ⟨bk, bq, bn⟩) || (decide (ak = 4) && decide (bk = 4))) 1 = _; rw [decide_eq_true (unhide Hh0)]; rfl)
  go_wp2_with fail
  refine C.mono ?_
  clear C
  rintro e9 w9 ⟨rfl, b9⟩
  have hV9 := kept_of_below b9 k3
  have bb9 := bX.trans (b9.mono bX.size)
  obtain ⟨z0, z1, z2⟩ := bl3_ hV9
  have zf : ∀ o, w9.frozen? ⟨w.heap.size + 2, o, none⟩ = false := fun o => Lib.frozen_of_heap hV9 o
  have HQ := hide (set3_all (.int .i64 1) (.int .i64 0) (.string ⟨#[]⟩) hV9 bb9 (Nat.le_add_right _ 2))
  go_wp2
  obtain ⟨q0, q1, q2, qb⟩ := unhide HQ
  exact bodyPost_ret (v := .tuple #[.agg #[.int .i64 1, .int .i64 0, .string ⟨#[]⟩], .int .i64 0]) (by simp [results, Try.results43, go_sem, q0, q1, q2]) rfl ⟨by rw [unhide HE]; rfl, qb⟩
 ·simp only [decide_eq_false h0, Bool.not_false] at BT
  have Hh0 := hide h0
  clear h0
  by_cases h1 : ak = 4
  ·have gh1 : (ak == 4) = true := by simpa using h1
   have nh1 : (ak != 4) = false := by simp [h1]
   have Hh1 := hide h1
   clear h1
   by_cases h2 : bk = 4
   ·have gh2 : (bk == 4) = true := by simpa using h2
    have nh2 : (bk != 4) = false := by simp [h2]
    have Hh2 := hide h2
    clear h2
    have qa0 := cell_regrown a0
    have qa1 := cell_regrown a1
    have qa2 := cell_regrown a2
    have qb0 := cell_regrown b0
    have qb1 := cell_regrown b1
    have qb2 := cell_regrown b2
    clear a0 a1 a2 b0 b1 b2
    refine wp_region_quiet_below (by kernel_rfl) (by kernel_rfl) ?_
    repeat (first | go_big_quiet_step (fail) | quiet_step (fail))
    refine wpQuiet_nil ?_
    intro _ hw'
    obtain ⟨⟨dq2, osq2⟩, hw''⟩ := hw'
    subst hw''
    have b11 := below_regrown w2 dq2 osq2
    generalize grow (redrawn w2 dq2) osq2 = w6 at *
    clear qa0 qa1 qa2 qb0 qb1 qb2
    have k3 := kept_of_below b11 k3
    have k4 := kept_of_below b11 k4
    have bX := bX.trans (b11.mono bX.size)
    clear BT
    have C := r11of_any 1 w6
    have HE := hide (show nodeT s p r 21 es et ei [⟨ak, aq, an⟩, ⟨bk, bq, bn⟩] = (⟨1, 0, ⟨#[]⟩⟩, 0) from by show whereT (decide ((⟨ak, aq, an⟩ : T3) = ⟨bk, bq, bn⟩) || (decide (ak = 4) && decide (bk = 4))) 1 = _; rw [decide_eq_false (unhide Hh0), decide_eq_true (unhide Hh1), decide_eq_true (unhide Hh2)]; rfl)
    go_wp2_with fail
    refine C.mono ?_
    clear C
    rintro e9 w9 ⟨rfl, b9⟩
    have hV9 := kept_of_below b9 k3
    have bb9 := bX.trans (b9.mono bX.size)
    obtain ⟨z0, z1, z2⟩ := bl3_ hV9
    have zf : ∀ o, w9.frozen? ⟨w.heap.size + 2, o, none⟩ = false := fun o => Lib.frozen_of_heap hV9 o
    have HQ := hide (set3_all (.int .i64 1) (.int .i64 0) (.string ⟨#[]⟩) hV9 bb9 (Nat.le_add_right _ 2))
    go_wp2
    obtain ⟨q0, q1, q2, qb⟩ := unhide HQ
    exact bodyPost_ret (v := .tuple #[.agg #[.int .i64 1, .int .i64 0, .string ⟨#[]⟩], .int .i64 0]) (by simp [results, Try.results43, go_sem, q0, q1, q2]) rfl ⟨by rw [unhide HE]; rfl, qb⟩
   ·have gh2 : (bk == 4) = false := by simpa using h2
    have nh2 : (bk != 4) = true := by simpa using h2
    have Hh2 := hide h2
    clear h2
    have qa0 := cell_regrown a0
    have qa1 := cell_regrown a1
    have qa2 := cell_regrown a2
    have qb0 := cell_regrown b0
    have qb1 := cell_regrown b1
    have qb2 := cell_regrown b2
    clear a0 a1 a2 b0 b1 b2
    refine wp_region_quiet_below (by kernel_rfl) (by kernel_rfl) ?_
    repeat (first | go_big_quiet_step (fail) | quiet_step (fail))
    refine wpQuiet_nil ?_
    intro _ hw'
    obtain ⟨⟨dq2, osq2⟩, hw''⟩ := hw'
    subst hw''
    have b11 := below_regrown w2 dq2 osq2
    generalize grow (redrawn w2 dq2) osq2 = w6 at *
    clear qa0 qa1 qa2 qb0 qb1 qb2
    have k3 := kept_of_below b11 k3
    have k4 := kept_of_below b11 k4
    have bX := bX.trans (b11.mono bX.size)
    clear BT
    obtain ⟨n0, n1, n2⟩ := bl3_ k4
    have HE := hide (show nodeT s p r 21 es et ei [⟨ak, aq, an⟩, ⟨bk, bq, bn⟩] = (⟨0, 0, ⟨#[]⟩⟩, 16) from by show whereT (decide ((⟨ak, aq, an⟩ : T3) = ⟨bk, bq, bn⟩) || (decide (ak = 4) && decide (bk = 4))) 1 = _; rw [decide_eq_false (unhide Hh0), decide_eq_true (unhide Hh1), decide_eq_false (unhide Hh2)]; rfl)
    obtain ⟨z0, z1, z2⟩ := bl3_ k3
    have zf : ∀ o, w6.frozen? ⟨w.heap.size + 2, o, none⟩ = false := fun o => Lib.frozen_of_heap k3 o
    have HQ := hide (set3_all (.int .i64 0) (.int .i64 0) (.string ⟨#[]⟩) k3 bX (Nat.le_add_right _ 2))
    go_wp2
    obtain ⟨q0, q1, q2, qb⟩ := unhide HQ
    exact bodyPost_ret (v := .tuple #[.agg #[.int .i64 0, .int .i64 0, .string ⟨#[]⟩], .int .i64 16]) (by simp [results, Try.results43, go_sem, q0, q1, q2]) rfl ⟨by rw [unhide HE]; rfl, qb⟩
  ·have gh1 : (ak == 4) = false := by simpa using h1
   have nh1 : (ak != 4) = true := by simpa using h1
   have Hh1 := hide h1
   clear h1
   have qa0 := cell_regrown a0
   have qa1 := cell_regrown a1
   have qa2 := cell_regrown a2
   have qb0 := cell_regrown b0
   have qb1 := cell_regrown b1
   have qb2 := cell_regrown b2
   clear a0 a1 a2 b0 b1 b2
   refine wp_region_quiet_below (by kernel_rfl) (by kernel_rfl) ?_
   repeat (first | go_big_quiet_step (fail) | quiet_step (fail))
   refine wpQuiet_nil ?_
   intro _ hw'
   obtain ⟨⟨dq2, osq2⟩, hw''⟩ := hw'
   subst hw''
   have b11 := below_regrown w2 dq2 osq2
   generalize grow (redrawn w2 dq2) osq2 = w6 at *
   clear qa0 qa1 qa2 qb0 qb1 qb2
   have k3 := kept_of_below b11 k3
   have k4 := kept_of_below b11 k4
   have bX := bX.trans (b11.mono bX.size)
   clear BT
   obtain ⟨n0, n1, n2⟩ := bl3_ k4
   have HE := hide (show nodeT s p r 21 es et ei [⟨ak, aq, an⟩, ⟨bk, bq, bn⟩] = (⟨0, 0, ⟨#[]⟩⟩, 16) from by show whereT (decide ((⟨ak, aq, an⟩ : T3) = ⟨bk, bq, bn⟩) || (decide (ak = 4) && decide (bk = 4))) 1 = _; rw [decide_eq_false (unhide Hh0), decide_eq_false (unhide Hh1)]; rfl)
   obtain ⟨z0, z1, z2⟩ := bl3_ k3
   have zf : ∀ o, w6.frozen? ⟨w.heap.size + 2, o, none⟩ = false := fun o => Lib.frozen_of_heap k3 o
   have HQ := hide (set3_all (.int .i64 0) (.int .i64 0) (.string ⟨#[]⟩) k3 bX (Nat.le_add_right _ 2))
   go_wp2
   obtain ⟨q0, q1, q2, qb⟩ := unhide HQ
   exact bodyPost_ret (v := .tuple #[.agg #[.int .i64 0, .int .i64 0, .string ⟨#[]⟩], .int .i64 16]) (by simp [results, Try.results43, go_sem, q0, q1, q2]) rfl ⟨by rw [unhide HE]; rfl, qb⟩
end Go.Proofs.Ytagnbpobcijakaa
