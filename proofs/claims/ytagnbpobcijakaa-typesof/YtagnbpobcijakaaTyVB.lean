/-
  chancelref11.own: mul, add, sub: what it returns.
  chancelref11.own: comparisons: what it returns.
  chancelref11.own: and, or: what it returns.
-/
import Derived.Test.YtagnbpobcijakaaTyUV
namespace Go.Proofs.Ytagnbpobcijakaa
open Go.RowKit Go.Sort

set_option maxHeartbeats 8000000 in
set_option maxRecDepth 1000000 in
theorem rown_13 (s : SP) (v : Value) (p r : ByteArray) (eb : Bool) (en : Int) (es et ei : ByteArray) (elo : Option Addr) (ell elc : Nat) (ak aq : Int) (an : ByteArray) (bk bq : Int) (bn : ByteArray) (lo : Option Addr) (cap : Nat) (w : World) (_hsm : SmS s) (hs : IsST w v s) (hr : RowT3 w lo [⟨ak, aq, an⟩, ⟨bk, bq, bn⟩]) : Calls Try.prog 43 #[v, .agg #[.int .i64 13, .bool eb, .int .i64 en, .string es, .string et, .string ei, .slice elo ell elc], .slice lo 2 cap] w fun e w' => e = .returned (nodeT s p r 13 es et ei [⟨ak, aq, an⟩, ⟨bk, bq, bn⟩]).ret ∧ Below w.heap.size w w' := by
  obtain ⟨ko, kc, ao, acp, rfl, _, _⟩ := hs.ex2
  obtain ⟨bX, zX, k1, k2, k3⟩ := alloc3 w (.cells #[.slice ko s.ks.length kc, .slice ao s.ac.length acp] 33) (.cells #[.int .i64 13, .bool eb, .int .i64 en, .string es, .string et, .string ei, .slice elo ell elc] 39) (.cells #[.int .i64 0, .int .i64 0, .string ⟨#[]⟩] 54)
  have HS := hide hs
  have HR := hide hr
  obtain ⟨g, off, rfl, hg, hat0⟩ := hr.get (Below.refl _ w) (show 0 < ([⟨ak, aq, an⟩, ⟨bk, bq, bn⟩] : List T3).length by simp)
  have hat0 : AtT3 w g off ⟨ak, aq, an⟩ := by simpa using hat0
  obtain ⟨a0, a1, a2⟩ := hat0
  simp only at a0 a1 a2
  obtain ⟨g', off', eg, _, hat1⟩ := hr.get (Below.refl _ w) (show 1 < ([⟨ak, aq, an⟩, ⟨bk, bq, bn⟩] : List T3).length by simp)
  cases eg
  have hat1 : AtT3 w g (off + 3) ⟨bk, bq, bn⟩ := by simpa using hat1
  obtain ⟨b0, b1, b2⟩ := hat1
  simp only at b0 b1 b2
  clear hs hr
  go_enter Try.func43, Try.ntmps43
  go_upto_region 1 with fail
  generalize ((w.alloc _).alloc _).alloc _ = w1 at *
  clear zX
  have hw1 : w.heap.size ≤ w1.heap.size := bX.size
  have b2 := blw1 w1 (.cells #[.int .i64 0, .int .i64 0, .string ⟨#[]⟩] 54)
  have h2 := alloc_heap w1 (.cells #[.int .i64 0, .int .i64 0, .string ⟨#[]⟩] 54)
  have k4 := h2
  have B2 := b2
  have n0 : (w1.alloc (.cells #[.int .i64 0, .int .i64 0, .string ⟨#[]⟩] 54)).cell? ⟨w1.heap.size, 0, none⟩ = some (.int .i64 0) := by rw [Lib.cell_of_heap h2]; rfl
  have n1 : (w1.alloc (.cells #[.int .i64 0, .int .i64 0, .string ⟨#[]⟩] 54)).cell? ⟨w1.heap.size, 1, none⟩ = some (.int .i64 0) := by rw [Lib.cell_of_heap h2]; rfl
  have n2 : (w1.alloc (.cells #[.int .i64 0, .int .i64 0, .string ⟨#[]⟩] 54)).cell? ⟨w1.heap.size, 2, none⟩ = some (.string ⟨#[]⟩) := by rw [Lib.cell_of_heap h2]; rfl
  have nf : ∀ o, (w1.alloc (.cells #[.int .i64 0, .int .i64 0, .string ⟨#[]⟩] 54)).frozen? ⟨w1.heap.size, o, none⟩ = false := fun o => Lib.frozen_of_heap h2 o
  go_upto_region 2 with fail
  clear n0 n1 n2 nf b2 h2
  generalize w1.alloc _ = w2 at *
  have bX := bX.trans (B2.mono bX.size)
  have k1 := kept_of_below B2 k1
  have k2 := kept_of_below B2 k2
  have k3 := kept_of_below B2 k3
  have hs2 := (unhide HS).below bX
  have hr2 := (unhide HR).below bX
  clear B2
  have ce0 : w2.cell? ⟨w.heap.size + 1, 0, none⟩ = some (.int .i64 13) := by rw [Lib.cell_of_heap k2]; rfl
  have ce3 : w2.cell? ⟨w.heap.size + 1, 3, none⟩ = some (.string es) := by rw [Lib.cell_of_heap k2]; rfl
  have a0 := (bX.cell (p := ⟨g, off, none⟩) hg).trans a0
  have a1 := (bX.cell (p := ⟨g, off + 1, none⟩) hg).trans a1
  have a2 := (bX.cell (p := ⟨g, off + 2, none⟩) hg).trans a2
  have b0 := (bX.cell (p := ⟨g, off + 3, none⟩) hg).trans b0
  have b1 := (bX.cell (p := ⟨g, off + 4, none⟩) hg).trans b1
  have b2 := (bX.cell (p := ⟨g, off + 5, none⟩) hg).trans b2
  have C := rneed_any [⟨ak, aq, an⟩, ⟨bk, bq, bn⟩] _ cap 2 2 2 w2 rfl (by simp) hr2
  have HE : nodeT s p r 13 es et ei [⟨ak, aq, an⟩, ⟨bk, bq, bn⟩] = needT [⟨ak, aq, an⟩, ⟨bk, bq, bn⟩] 2 2 := by
    rw [need_two]
    rfl
  obtain ⟨x, hx⟩ : ∃ x : TR, x = needT [⟨ak, aq, an⟩, ⟨bk, bq, bn⟩] 2 2 := ⟨_, rfl⟩
  rw [← hx] at C HE
  obtain ⟨⟨xk, xo, xn⟩, xe⟩ := x
  have HE := hide HE
  clear hx hs2 hr2
  unfold TR.ret at C
  simp only at C
  go_wp2_with fail
  refine C.mono ?_
  clear C
  rintro e9 w5 ⟨rfl, b5⟩
  have hV5 := kept_of_below b5 k3
  have bb5 := bX.trans (b5.mono bX.size)
  have z0 : w5.cell? ⟨w.heap.size + 2, 0, none⟩ = some (.int .i64 0) := by rw [Lib.cell_of_heap hV5]; rfl
  have z1 : w5.cell? ⟨w.heap.size + 2, 1, none⟩ = some (.int .i64 0) := by rw [Lib.cell_of_heap hV5]; rfl
  have z2 : w5.cell? ⟨w.heap.size + 2, 2, none⟩ = some (.string ⟨#[]⟩) := by rw [Lib.cell_of_heap hV5]; rfl
  have zf : ∀ o, w5.frozen? ⟨w.heap.size + 2, o, none⟩ = false := fun o => Lib.frozen_of_heap hV5 o
  have HQ := hide (set3_all (.int .i64 xk) (.int .i64 xo) (.string xn) hV5 bb5 (Nat.le_add_right _ 2))
  go_wp2
  obtain ⟨q0, q1, q2, qb⟩ := unhide HQ
  exact bodyPost_ret (v := .tuple #[.agg #[.int .i64 xk, .int .i64 xo, .string xn], .int .i64 xe]) (by simp [results, Try.results43, go_sem, q0, q1, q2]) rfl ⟨by rw [unhide HE]; rfl, qb⟩
set_option maxHeartbeats 8000000 in
set_option maxRecDepth 1000000 in
theorem rown_14 (s : SP) (v : Value) (p r : ByteArray) (eb : Bool) (en : Int) (es et ei : ByteArray) (elo : Option Addr) (ell elc : Nat) (ak aq : Int) (an : ByteArray) (bk bq : Int) (bn : ByteArray) (lo : Option Addr) (cap : Nat) (w : World) (_hsm : SmS s) (hs : IsST w v s) (hr : RowT3 w lo [⟨ak, aq, an⟩, ⟨bk, bq, bn⟩]) : Calls Try.prog 43 #[v, .agg #[.int .i64 14, .bool eb, .int .i64 en, .string es, .string et, .string ei, .slice elo ell elc], .slice lo 2 cap] w fun e w' => e = .returned (nodeT s p r 14 es et ei [⟨ak, aq, an⟩, ⟨bk, bq, bn⟩]).ret ∧ Below w.heap.size w w' := by
  obtain ⟨ko, kc, ao, acp, rfl, _, _⟩ := hs.ex2
  obtain ⟨bX, zX, k1, k2, k3⟩ := alloc3 w (.cells #[.slice ko s.ks.length kc, .slice ao s.ac.length acp] 33) (.cells #[.int .i64 14, .bool eb, .int .i64 en, .string es, .string et, .string ei, .slice elo ell elc] 39) (.cells #[.int .i64 0, .int .i64 0, .string ⟨#[]⟩] 54)
  have HS := hide hs
  have HR := hide hr
  obtain ⟨g, off, rfl, hg, hat0⟩ := hr.get (Below.refl _ w) (show 0 < ([⟨ak, aq, an⟩, ⟨bk, bq, bn⟩] : List T3).length by simp)
  have hat0 : AtT3 w g off ⟨ak, aq, an⟩ := by simpa using hat0
  obtain ⟨a0, a1, a2⟩ := hat0
  simp only at a0 a1 a2
  obtain ⟨g', off', eg, _, hat1⟩ := hr.get (Below.refl _ w) (show 1 < ([⟨ak, aq, an⟩, ⟨bk, bq, bn⟩] : List T3).length by simp)
  cases eg
  have hat1 : AtT3 w g (off + 3) ⟨bk, bq, bn⟩ := by simpa using hat1
  obtain ⟨b0, b1, b2⟩ := hat1
  simp only at b0 b1 b2
  clear hs hr
  go_enter Try.func43, Try.ntmps43
  go_upto_region 1 with fail
  generalize ((w.alloc _).alloc _).alloc _ = w1 at *
  clear zX
  have hw1 : w.heap.size ≤ w1.heap.size := bX.size
  have b2 := blw1 w1 (.cells #[.int .i64 0, .int .i64 0, .string ⟨#[]⟩] 54)
  have h2 := alloc_heap w1 (.cells #[.int .i64 0, .int .i64 0, .string ⟨#[]⟩] 54)
  have k4 := h2
  have B2 := b2
  have n0 : (w1.alloc (.cells #[.int .i64 0, .int .i64 0, .string ⟨#[]⟩] 54)).cell? ⟨w1.heap.size, 0, none⟩ = some (.int .i64 0) := by rw [Lib.cell_of_heap h2]; rfl
  have n1 : (w1.alloc (.cells #[.int .i64 0, .int .i64 0, .string ⟨#[]⟩] 54)).cell? ⟨w1.heap.size, 1, none⟩ = some (.int .i64 0) := by rw [Lib.cell_of_heap h2]; rfl
  have n2 : (w1.alloc (.cells #[.int .i64 0, .int .i64 0, .string ⟨#[]⟩] 54)).cell? ⟨w1.heap.size, 2, none⟩ = some (.string ⟨#[]⟩) := by rw [Lib.cell_of_heap h2]; rfl
  have nf : ∀ o, (w1.alloc (.cells #[.int .i64 0, .int .i64 0, .string ⟨#[]⟩] 54)).frozen? ⟨w1.heap.size, o, none⟩ = false := fun o => Lib.frozen_of_heap h2 o
  go_upto_region 2 with fail
  clear n0 n1 n2 nf b2 h2
  generalize w1.alloc _ = w2 at *
  have bX := bX.trans (B2.mono bX.size)
  have k1 := kept_of_below B2 k1
  have k2 := kept_of_below B2 k2
  have k3 := kept_of_below B2 k3
  have hs2 := (unhide HS).below bX
  have hr2 := (unhide HR).below bX
  clear B2
  have ce0 : w2.cell? ⟨w.heap.size + 1, 0, none⟩ = some (.int .i64 14) := by rw [Lib.cell_of_heap k2]; rfl
  have ce3 : w2.cell? ⟨w.heap.size + 1, 3, none⟩ = some (.string es) := by rw [Lib.cell_of_heap k2]; rfl
  have a0 := (bX.cell (p := ⟨g, off, none⟩) hg).trans a0
  have a1 := (bX.cell (p := ⟨g, off + 1, none⟩) hg).trans a1
  have a2 := (bX.cell (p := ⟨g, off + 2, none⟩) hg).trans a2
  have b0 := (bX.cell (p := ⟨g, off + 3, none⟩) hg).trans b0
  have b1 := (bX.cell (p := ⟨g, off + 4, none⟩) hg).trans b1
  have b2 := (bX.cell (p := ⟨g, off + 5, none⟩) hg).trans b2
  have C := rneed_any [⟨ak, aq, an⟩, ⟨bk, bq, bn⟩] _ cap 2 2 2 w2 rfl (by simp) hr2
  have HE : nodeT s p r 14 es et ei [⟨ak, aq, an⟩, ⟨bk, bq, bn⟩] = needT [⟨ak, aq, an⟩, ⟨bk, bq, bn⟩] 2 2 := by
    rw [need_two]
    rfl
  obtain ⟨x, hx⟩ : ∃ x : TR, x = needT [⟨ak, aq, an⟩, ⟨bk, bq, bn⟩] 2 2 := ⟨_, rfl⟩
  rw [← hx] at C HE
  obtain ⟨⟨xk, xo, xn⟩, xe⟩ := x
  have HE := hide HE
  clear hx hs2 hr2
  unfold TR.ret at C
  simp only at C
  go_wp2_with fail
  refine C.mono ?_
  clear C
  rintro e9 w5 ⟨rfl, b5⟩
  have hV5 := kept_of_below b5 k3
  have bb5 := bX.trans (b5.mono bX.size)
  have z0 : w5.cell? ⟨w.heap.size + 2, 0, none⟩ = some (.int .i64 0) := by rw [Lib.cell_of_heap hV5]; rfl
  have z1 : w5.cell? ⟨w.heap.size + 2, 1, none⟩ = some (.int .i64 0) := by rw [Lib.cell_of_heap hV5]; rfl
  have z2 : w5.cell? ⟨w.heap.size + 2, 2, none⟩ = some (.string ⟨#[]⟩) := by rw [Lib.cell_of_heap hV5]; rfl
  have zf : ∀ o, w5.frozen? ⟨w.heap.size + 2, o, none⟩ = false := fun o => Lib.frozen_of_heap hV5 o
  have HQ := hide (set3_all (.int .i64 xk) (.int .i64 xo) (.string xn) hV5 bb5 (Nat.le_add_right _ 2))
  go_wp2
  obtain ⟨q0, q1, q2, qb⟩ := unhide HQ
  exact bodyPost_ret (v := .tuple #[.agg #[.int .i64 xk, .int .i64 xo, .string xn], .int .i64 xe]) (by simp [results, Try.results43, go_sem, q0, q1, q2]) rfl ⟨by rw [unhide HE]; rfl, qb⟩
set_option maxHeartbeats 8000000 in
set_option maxRecDepth 1000000 in
theorem rown_15 (s : SP) (v : Value) (p r : ByteArray) (eb : Bool) (en : Int) (es et ei : ByteArray) (elo : Option Addr) (ell elc : Nat) (ak aq : Int) (an : ByteArray) (bk bq : Int) (bn : ByteArray) (lo : Option Addr) (cap : Nat) (w : World) (_hsm : SmS s) (hs : IsST w v s) (hr : RowT3 w lo [⟨ak, aq, an⟩, ⟨bk, bq, bn⟩]) : Calls Try.prog 43 #[v, .agg #[.int .i64 15, .bool eb, .int .i64 en, .string es, .string et, .string ei, .slice elo ell elc], .slice lo 2 cap] w fun e w' => e = .returned (nodeT s p r 15 es et ei [⟨ak, aq, an⟩, ⟨bk, bq, bn⟩]).ret ∧ Below w.heap.size w w' := by
  obtain ⟨ko, kc, ao, acp, rfl, _, _⟩ := hs.ex2
  obtain ⟨bX, zX, k1, k2, k3⟩ := alloc3 w (.cells #[.slice ko s.ks.length kc, .slice ao s.ac.length acp] 33) (.cells #[.int .i64 15, .bool eb, .int .i64 en, .string es, .string et, .string ei, .slice elo ell elc] 39) (.cells #[.int .i64 0, .int .i64 0, .string ⟨#[]⟩] 54)
  have HS := hide hs
  have HR := hide hr
  obtain ⟨g, off, rfl, hg, hat0⟩ := hr.get (Below.refl _ w) (show 0 < ([⟨ak, aq, an⟩, ⟨bk, bq, bn⟩] : List T3).length by simp)
  have hat0 : AtT3 w g off ⟨ak, aq, an⟩ := by simpa using hat0
  obtain ⟨a0, a1, a2⟩ := hat0
  simp only at a0 a1 a2
  obtain ⟨g', off', eg, _, hat1⟩ := hr.get (Below.refl _ w) (show 1 < ([⟨ak, aq, an⟩, ⟨bk, bq, bn⟩] : List T3).length by simp)
  cases eg
  have hat1 : AtT3 w g (off + 3) ⟨bk, bq, bn⟩ := by simpa using hat1
  obtain ⟨b0, b1, b2⟩ := hat1
  simp only at b0 b1 b2
  clear hs hr
  go_enter Try.func43, Try.ntmps43
  go_upto_region 1 with fail
  generalize ((w.alloc _).alloc _).alloc _ = w1 at *
  clear zX
  have hw1 : w.heap.size ≤ w1.heap.size := bX.size
  have b2 := blw1 w1 (.cells #[.int .i64 0, .int .i64 0, .string ⟨#[]⟩] 54)
  have h2 := alloc_heap w1 (.cells #[.int .i64 0, .int .i64 0, .string ⟨#[]⟩] 54)
  have k4 := h2
  have B2 := b2
  have n0 : (w1.alloc (.cells #[.int .i64 0, .int .i64 0, .string ⟨#[]⟩] 54)).cell? ⟨w1.heap.size, 0, none⟩ = some (.int .i64 0) := by rw [Lib.cell_of_heap h2]; rfl
  have n1 : (w1.alloc (.cells #[.int .i64 0, .int .i64 0, .string ⟨#[]⟩] 54)).cell? ⟨w1.heap.size, 1, none⟩ = some (.int .i64 0) := by rw [Lib.cell_of_heap h2]; rfl
  have n2 : (w1.alloc (.cells #[.int .i64 0, .int .i64 0, .string ⟨#[]⟩] 54)).cell? ⟨w1.heap.size, 2, none⟩ = some (.string ⟨#[]⟩) := by rw [Lib.cell_of_heap h2]; rfl
  have nf : ∀ o, (w1.alloc (.cells #[.int .i64 0, .int .i64 0, .string ⟨#[]⟩] 54)).frozen? ⟨w1.heap.size, o, none⟩ = false := fun o => Lib.frozen_of_heap h2 o
  go_upto_region 2 with fail
  clear n0 n1 n2 nf b2 h2
  generalize w1.alloc _ = w2 at *
  have bX := bX.trans (B2.mono bX.size)
  have k1 := kept_of_below B2 k1
  have k2 := kept_of_below B2 k2
  have k3 := kept_of_below B2 k3
  have hs2 := (unhide HS).below bX
  have hr2 := (unhide HR).below bX
  clear B2
  have ce0 : w2.cell? ⟨w.heap.size + 1, 0, none⟩ = some (.int .i64 15) := by rw [Lib.cell_of_heap k2]; rfl
  have ce3 : w2.cell? ⟨w.heap.size + 1, 3, none⟩ = some (.string es) := by rw [Lib.cell_of_heap k2]; rfl
  have a0 := (bX.cell (p := ⟨g, off, none⟩) hg).trans a0
  have a1 := (bX.cell (p := ⟨g, off + 1, none⟩) hg).trans a1
  have a2 := (bX.cell (p := ⟨g, off + 2, none⟩) hg).trans a2
  have b0 := (bX.cell (p := ⟨g, off + 3, none⟩) hg).trans b0
  have b1 := (bX.cell (p := ⟨g, off + 4, none⟩) hg).trans b1
  have b2 := (bX.cell (p := ⟨g, off + 5, none⟩) hg).trans b2
  have C := rneed_any [⟨ak, aq, an⟩, ⟨bk, bq, bn⟩] _ cap 2 2 2 w2 rfl (by simp) hr2
  have HE : nodeT s p r 15 es et ei [⟨ak, aq, an⟩, ⟨bk, bq, bn⟩] = needT [⟨ak, aq, an⟩, ⟨bk, bq, bn⟩] 2 2 := by
    rw [need_two]
    rfl
  obtain ⟨x, hx⟩ : ∃ x : TR, x = needT [⟨ak, aq, an⟩, ⟨bk, bq, bn⟩] 2 2 := ⟨_, rfl⟩
  rw [← hx] at C HE
  obtain ⟨⟨xk, xo, xn⟩, xe⟩ := x
  have HE := hide HE
  clear hx hs2 hr2
  unfold TR.ret at C
  simp only at C
  go_wp2_with fail
  refine C.mono ?_
  clear C
  rintro e9 w5 ⟨rfl, b5⟩
  have hV5 := kept_of_below b5 k3
  have bb5 := bX.trans (b5.mono bX.size)
  have z0 : w5.cell? ⟨w.heap.size + 2, 0, none⟩ = some (.int .i64 0) := by rw [Lib.cell_of_heap hV5]; rfl
  have z1 : w5.cell? ⟨w.heap.size + 2, 1, none⟩ = some (.int .i64 0) := by rw [Lib.cell_of_heap hV5]; rfl
  have z2 : w5.cell? ⟨w.heap.size + 2, 2, none⟩ = some (.string ⟨#[]⟩) := by rw [Lib.cell_of_heap hV5]; rfl
  have zf : ∀ o, w5.frozen? ⟨w.heap.size + 2, o, none⟩ = false := fun o => Lib.frozen_of_heap hV5 o
  have HQ := hide (set3_all (.int .i64 xk) (.int .i64 xo) (.string xn) hV5 bb5 (Nat.le_add_right _ 2))
  go_wp2
  obtain ⟨q0, q1, q2, qb⟩ := unhide HQ
  exact bodyPost_ret (v := .tuple #[.agg #[.int .i64 xk, .int .i64 xo, .string xn], .int .i64 xe]) (by simp [results, Try.results43, go_sem, q0, q1, q2]) rfl ⟨by rw [unhide HE]; rfl, qb⟩
end Go.Proofs.Ytagnbpobcijakaa

namespace Go.Proofs.Ytagnbpobcijakaa
open Go.RowKit Go.Sort

set_option maxHeartbeats 8000000 in
set_option maxRecDepth 1000000 in
theorem rown_16 (s : SP) (v : Value) (p r : ByteArray) (eb : Bool) (en : Int) (es et ei : ByteArray) (elo : Option Addr) (ell elc : Nat) (ak aq : Int) (an : ByteArray) (bk bq : Int) (bn : ByteArray) (lo : Option Addr) (cap : Nat) (w : World) (_hsm : SmS s) (hs : IsST w v s) (hr : RowT3 w lo [⟨ak, aq, an⟩, ⟨bk, bq, bn⟩]) : Calls Try.prog 43 #[v, .agg #[.int .i64 16, .bool eb, .int .i64 en, .string es, .string et, .string ei, .slice elo ell elc], .slice lo 2 cap] w fun e w' => e = .returned (nodeT s p r 16 es et ei [⟨ak, aq, an⟩, ⟨bk, bq, bn⟩]).ret ∧ Below w.heap.size w w' := by
  obtain ⟨ko, kc, ao, acp, rfl, _, _⟩ := hs.ex2
  obtain ⟨bX, zX, k1, k2, k3⟩ := alloc3 w (.cells #[.slice ko s.ks.length kc, .slice ao s.ac.length acp] 33) (.cells #[.int .i64 16, .bool eb, .int .i64 en, .string es, .string et, .string ei, .slice elo ell elc] 39) (.cells #[.int .i64 0, .int .i64 0, .string ⟨#[]⟩] 54)
  have HS := hide hs
  have HR := hide hr
  obtain ⟨g, off, rfl, hg, hat0⟩ := hr.get (Below.refl _ w) (show 0 < ([⟨ak, aq, an⟩, ⟨bk, bq, bn⟩] : List T3).length by simp)
  have hat0 : AtT3 w g off ⟨ak, aq, an⟩ := by simpa using hat0
  obtain ⟨a0, a1, a2⟩ := hat0
  simp only at a0 a1 a2
  obtain ⟨g', off', eg, _, hat1⟩ := hr.get (Below.refl _ w) (show 1 < ([⟨ak, aq, an⟩, ⟨bk, bq, bn⟩] : List T3).length by simp)
  cases eg
  have hat1 : AtT3 w g (off + 3) ⟨bk, bq, bn⟩ := by simpa using hat1
  obtain ⟨b0, b1, b2⟩ := hat1
  simp only at b0 b1 b2
  clear hs hr
  go_enter Try.func43, Try.ntmps43
  go_upto_region 1 with fail
  generalize ((w.alloc _).alloc _).alloc _ = w1 at *
  clear zX
  have hw1 : w.heap.size ≤ w1.heap.size := bX.size
  have b2 := blw1 w1 (.cells #[.int .i64 0, .int .i64 0, .string ⟨#[]⟩] 54)
  have h2 := alloc_heap w1 (.cells #[.int .i64 0, .int .i64 0, .string ⟨#[]⟩] 54)
  have k4 := h2
  have B2 := b2
  have n0 : (w1.alloc (.cells #[.int .i64 0, .int .i64 0, .string ⟨#[]⟩] 54)).cell? ⟨w1.heap.size, 0, none⟩ = some (.int .i64 0) := by rw [Lib.cell_of_heap h2]; rfl
  have n1 : (w1.alloc (.cells #[.int .i64 0, .int .i64 0, .string ⟨#[]⟩] 54)).cell? ⟨w1.heap.size, 1, none⟩ = some (.int .i64 0) := by rw [Lib.cell_of_heap h2]; rfl
  have n2 : (w1.alloc (.cells #[.int .i64 0, .int .i64 0, .string ⟨#[]⟩] 54)).cell? ⟨w1.heap.size, 2, none⟩ = some (.string ⟨#[]⟩) := by rw [Lib.cell_of_heap h2]; rfl
  have nf : ∀ o, (w1.alloc (.cells #[.int .i64 0, .int .i64 0, .string ⟨#[]⟩] 54)).frozen? ⟨w1.heap.size, o, none⟩ = false := fun o => Lib.frozen_of_heap h2 o
  go_upto_region 2 with fail
  clear n0 n1 n2 nf b2 h2
  generalize w1.alloc _ = w2 at *
  have bX := bX.trans (B2.mono bX.size)
  have k1 := kept_of_below B2 k1
  have k2 := kept_of_below B2 k2
  have k3 := kept_of_below B2 k3
  have hs2 := (unhide HS).below bX
  have hr2 := (unhide HR).below bX
  clear B2
  have ce0 : w2.cell? ⟨w.heap.size + 1, 0, none⟩ = some (.int .i64 16) := by rw [Lib.cell_of_heap k2]; rfl
  have ce3 : w2.cell? ⟨w.heap.size + 1, 3, none⟩ = some (.string es) := by rw [Lib.cell_of_heap k2]; rfl
  have a0 := (bX.cell (p := ⟨g, off, none⟩) hg).trans a0
  have a1 := (bX.cell (p := ⟨g, off + 1, none⟩) hg).trans a1
  have a2 := (bX.cell (p := ⟨g, off + 2, none⟩) hg).trans a2
  have b0 := (bX.cell (p := ⟨g, off + 3, none⟩) hg).trans b0
  have b1 := (bX.cell (p := ⟨g, off + 4, none⟩) hg).trans b1
  have b2 := (bX.cell (p := ⟨g, off + 5, none⟩) hg).trans b2
  have C := rneed_any [⟨ak, aq, an⟩, ⟨bk, bq, bn⟩] _ cap 2 2 1 w2 rfl (by simp) hr2
  have HE : nodeT s p r 16 es et ei [⟨ak, aq, an⟩, ⟨bk, bq, bn⟩] = needT [⟨ak, aq, an⟩, ⟨bk, bq, bn⟩] 2 1 := by
    rw [need_two]
    rfl
  obtain ⟨x, hx⟩ : ∃ x : TR, x = needT [⟨ak, aq, an⟩, ⟨bk, bq, bn⟩] 2 1 := ⟨_, rfl⟩
  rw [← hx] at C HE
  obtain ⟨⟨xk, xo, xn⟩, xe⟩ := x
  have HE := hide HE
  clear hx hs2 hr2
  unfold TR.ret at C
  simp only at C
  go_wp2_with fail
  refine C.mono ?_
  clear C
  rintro e9 w5 ⟨rfl, b5⟩
  have hV5 := kept_of_below b5 k3
  have bb5 := bX.trans (b5.mono bX.size)
  have z0 : w5.cell? ⟨w.heap.size + 2, 0, none⟩ = some (.int .i64 0) := by rw [Lib.cell_of_heap hV5]; rfl
  have z1 : w5.cell? ⟨w.heap.size + 2, 1, none⟩ = some (.int .i64 0) := by rw [Lib.cell_of_heap hV5]; rfl
  have z2 : w5.cell? ⟨w.heap.size + 2, 2, none⟩ = some (.string ⟨#[]⟩) := by rw [Lib.cell_of_heap hV5]; rfl
  have zf : ∀ o, w5.frozen? ⟨w.heap.size + 2, o, none⟩ = false := fun o => Lib.frozen_of_heap hV5 o
  have HQ := hide (set3_all (.int .i64 xk) (.int .i64 xo) (.string xn) hV5 bb5 (Nat.le_add_right _ 2))
  go_wp2
  obtain ⟨q0, q1, q2, qb⟩ := unhide HQ
  exact bodyPost_ret (v := .tuple #[.agg #[.int .i64 xk, .int .i64 xo, .string xn], .int .i64 xe]) (by simp [results, Try.results43, go_sem, q0, q1, q2]) rfl ⟨by rw [unhide HE]; rfl, qb⟩
set_option maxHeartbeats 8000000 in
set_option maxRecDepth 1000000 in
theorem rown_17 (s : SP) (v : Value) (p r : ByteArray) (eb : Bool) (en : Int) (es et ei : ByteArray) (elo : Option Addr) (ell elc : Nat) (ak aq : Int) (an : ByteArray) (bk bq : Int) (bn : ByteArray) (lo : Option Addr) (cap : Nat) (w : World) (_hsm : SmS s) (hs : IsST w v s) (hr : RowT3 w lo [⟨ak, aq, an⟩, ⟨bk, bq, bn⟩]) : Calls Try.prog 43 #[v, .agg #[.int .i64 17, .bool eb, .int .i64 en, .string es, .string et, .string ei, .slice elo ell elc], .slice lo 2 cap] w fun e w' => e = .returned (nodeT s p r 17 es et ei [⟨ak, aq, an⟩, ⟨bk, bq, bn⟩]).ret ∧ Below w.heap.size w w' := by
  obtain ⟨ko, kc, ao, acp, rfl, _, _⟩ := hs.ex2
  obtain ⟨bX, zX, k1, k2, k3⟩ := alloc3 w (.cells #[.slice ko s.ks.length kc, .slice ao s.ac.length acp] 33) (.cells #[.int .i64 17, .bool eb, .int .i64 en, .string es, .string et, .string ei, .slice elo ell elc] 39) (.cells #[.int .i64 0, .int .i64 0, .string ⟨#[]⟩] 54)
  have HS := hide hs
  have HR := hide hr
  obtain ⟨g, off, rfl, hg, hat0⟩ := hr.get (Below.refl _ w) (show 0 < ([⟨ak, aq, an⟩, ⟨bk, bq, bn⟩] : List T3).length by simp)
  have hat0 : AtT3 w g off ⟨ak, aq, an⟩ := by simpa using hat0
  obtain ⟨a0, a1, a2⟩ := hat0
  simp only at a0 a1 a2
  obtain ⟨g', off', eg, _, hat1⟩ := hr.get (Below.refl _ w) (show 1 < ([⟨ak, aq, an⟩, ⟨bk, bq, bn⟩] : List T3).length by simp)
  cases eg
  have hat1 : AtT3 w g (off + 3) ⟨bk, bq, bn⟩ := by simpa using hat1
  obtain ⟨b0, b1, b2⟩ := hat1
  simp only at b0 b1 b2
  clear hs hr
  go_enter Try.func43, Try.ntmps43
  go_upto_region 1 with fail
  generalize ((w.alloc _).alloc _).alloc _ = w1 at *
  clear zX
  have hw1 : w.heap.size ≤ w1.heap.size := bX.size
  have b2 := blw1 w1 (.cells #[.int .i64 0, .int .i64 0, .string ⟨#[]⟩] 54)
  have h2 := alloc_heap w1 (.cells #[.int .i64 0, .int .i64 0, .string ⟨#[]⟩] 54)
  have k4 := h2
  have B2 := b2
  have n0 : (w1.alloc (.cells #[.int .i64 0, .int .i64 0, .string ⟨#[]⟩] 54)).cell? ⟨w1.heap.size, 0, none⟩ = some (.int .i64 0) := by rw [Lib.cell_of_heap h2]; rfl
  have n1 : (w1.alloc (.cells #[.int .i64 0, .int .i64 0, .string ⟨#[]⟩] 54)).cell? ⟨w1.heap.size, 1, none⟩ = some (.int .i64 0) := by rw [Lib.cell_of_heap h2]; rfl
  have n2 : (w1.alloc (.cells #[.int .i64 0, .int .i64 0, .string ⟨#[]⟩] 54)).cell? ⟨w1.heap.size, 2, none⟩ = some (.string ⟨#[]⟩) := by rw [Lib.cell_of_heap h2]; rfl
  have nf : ∀ o, (w1.alloc (.cells #[.int .i64 0, .int .i64 0, .string ⟨#[]⟩] 54)).frozen? ⟨w1.heap.size, o, none⟩ = false := fun o => Lib.frozen_of_heap h2 o
  go_upto_region 2 with fail
  clear n0 n1 n2 nf b2 h2
  generalize w1.alloc _ = w2 at *
  have bX := bX.trans (B2.mono bX.size)
  have k1 := kept_of_below B2 k1
  have k2 := kept_of_below B2 k2
  have k3 := kept_of_below B2 k3
  have hs2 := (unhide HS).below bX
  have hr2 := (unhide HR).below bX
  clear B2
  have ce0 : w2.cell? ⟨w.heap.size + 1, 0, none⟩ = some (.int .i64 17) := by rw [Lib.cell_of_heap k2]; rfl
  have ce3 : w2.cell? ⟨w.heap.size + 1, 3, none⟩ = some (.string es) := by rw [Lib.cell_of_heap k2]; rfl
  have a0 := (bX.cell (p := ⟨g, off, none⟩) hg).trans a0
  have a1 := (bX.cell (p := ⟨g, off + 1, none⟩) hg).trans a1
  have a2 := (bX.cell (p := ⟨g, off + 2, none⟩) hg).trans a2
  have b0 := (bX.cell (p := ⟨g, off + 3, none⟩) hg).trans b0
  have b1 := (bX.cell (p := ⟨g, off + 4, none⟩) hg).trans b1
  have b2 := (bX.cell (p := ⟨g, off + 5, none⟩) hg).trans b2
  have C := rneed_any [⟨ak, aq, an⟩, ⟨bk, bq, bn⟩] _ cap 2 2 1 w2 rfl (by simp) hr2
  have HE : nodeT s p r 17 es et ei [⟨ak, aq, an⟩, ⟨bk, bq, bn⟩] = needT [⟨ak, aq, an⟩, ⟨bk, bq, bn⟩] 2 1 := by
    rw [need_two]
    rfl
  obtain ⟨x, hx⟩ : ∃ x : TR, x = needT [⟨ak, aq, an⟩, ⟨bk, bq, bn⟩] 2 1 := ⟨_, rfl⟩
  rw [← hx] at C HE
  obtain ⟨⟨xk, xo, xn⟩, xe⟩ := x
  have HE := hide HE
  clear hx hs2 hr2
  unfold TR.ret at C
  simp only at C
  go_wp2_with fail
  refine C.mono ?_
  clear C
  rintro e9 w5 ⟨rfl, b5⟩
  have hV5 := kept_of_below b5 k3
  have bb5 := bX.trans (b5.mono bX.size)
  have z0 : w5.cell? ⟨w.heap.size + 2, 0, none⟩ = some (.int .i64 0) := by rw [Lib.cell_of_heap hV5]; rfl
  have z1 : w5.cell? ⟨w.heap.size + 2, 1, none⟩ = some (.int .i64 0) := by rw [Lib.cell_of_heap hV5]; rfl
  have z2 : w5.cell? ⟨w.heap.size + 2, 2, none⟩ = some (.string ⟨#[]⟩) := by rw [Lib.cell_of_heap hV5]; rfl
  have zf : ∀ o, w5.frozen? ⟨w.heap.size + 2, o, none⟩ = false := fun o => Lib.frozen_of_heap hV5 o
  have HQ := hide (set3_all (.int .i64 xk) (.int .i64 xo) (.string xn) hV5 bb5 (Nat.le_add_right _ 2))
  go_wp2
  obtain ⟨q0, q1, q2, qb⟩ := unhide HQ
  exact bodyPost_ret (v := .tuple #[.agg #[.int .i64 xk, .int .i64 xo, .string xn], .int .i64 xe]) (by simp [results, Try.results43, go_sem, q0, q1, q2]) rfl ⟨by rw [unhide HE]; rfl, qb⟩
set_option maxHeartbeats 8000000 in
set_option maxRecDepth 1000000 in
theorem rown_18 (s : SP) (v : Value) (p r : ByteArray) (eb : Bool) (en : Int) (es et ei : ByteArray) (elo : Option Addr) (ell elc : Nat) (ak aq : Int) (an : ByteArray) (bk bq : Int) (bn : ByteArray) (lo : Option Addr) (cap : Nat) (w : World) (_hsm : SmS s) (hs : IsST w v s) (hr : RowT3 w lo [⟨ak, aq, an⟩, ⟨bk, bq, bn⟩]) : Calls Try.prog 43 #[v, .agg #[.int .i64 18, .bool eb, .int .i64 en, .string es, .string et, .string ei, .slice elo ell elc], .slice lo 2 cap] w fun e w' => e = .returned (nodeT s p r 18 es et ei [⟨ak, aq, an⟩, ⟨bk, bq, bn⟩]).ret ∧ Below w.heap.size w w' := by
  obtain ⟨ko, kc, ao, acp, rfl, _, _⟩ := hs.ex2
  obtain ⟨bX, zX, k1, k2, k3⟩ := alloc3 w (.cells #[.slice ko s.ks.length kc, .slice ao s.ac.length acp] 33) (.cells #[.int .i64 18, .bool eb, .int .i64 en, .string es, .string et, .string ei, .slice elo ell elc] 39) (.cells #[.int .i64 0, .int .i64 0, .string ⟨#[]⟩] 54)
  have HS := hide hs
  have HR := hide hr
  obtain ⟨g, off, rfl, hg, hat0⟩ := hr.get (Below.refl _ w) (show 0 < ([⟨ak, aq, an⟩, ⟨bk, bq, bn⟩] : List T3).length by simp)
  have hat0 : AtT3 w g off ⟨ak, aq, an⟩ := by simpa using hat0
  obtain ⟨a0, a1, a2⟩ := hat0
  simp only at a0 a1 a2
  obtain ⟨g', off', eg, _, hat1⟩ := hr.get (Below.refl _ w) (show 1 < ([⟨ak, aq, an⟩, ⟨bk, bq, bn⟩] : List T3).length by simp)
  cases eg
  have hat1 : AtT3 w g (off + 3) ⟨bk, bq, bn⟩ := by simpa using hat1
  obtain ⟨b0, b1, b2⟩ := hat1
  simp only at b0 b1 b2
  clear hs hr
  go_enter Try.func43, Try.ntmps43
  go_upto_region 1 with fail
  generalize ((w.alloc _).alloc _).alloc _ = w1 at *
  clear zX
  have hw1 : w.heap.size ≤ w1.heap.size := bX.size
  have b2 := blw1 w1 (.cells #[.int .i64 0, .int .i64 0, .string ⟨#[]⟩] 54)
  have h2 := alloc_heap w1 (.cells #[.int .i64 0, .int .i64 0, .string ⟨#[]⟩] 54)
  have k4 := h2
  have B2 := b2
  have n0 : (w1.alloc (.cells #[.int .i64 0, .int .i64 0, .string ⟨#[]⟩] 54)).cell? ⟨w1.heap.size, 0, none⟩ = some (.int .i64 0) := by rw [Lib.cell_of_heap h2]; rfl
  have n1 : (w1.alloc (.cells #[.int .i64 0, .int .i64 0, .string ⟨#[]⟩] 54)).cell? ⟨w1.heap.size, 1, none⟩ = some (.int .i64 0) := by rw [Lib.cell_of_heap h2]; rfl
  have n2 : (w1.alloc (.cells #[.int .i64 0, .int .i64 0, .string ⟨#[]⟩] 54)).cell? ⟨w1.heap.size, 2, none⟩ = some (.string ⟨#[]⟩) := by rw [Lib.cell_of_heap h2]; rfl
  have nf : ∀ o, (w1.alloc (.cells #[.int .i64 0, .int .i64 0, .string ⟨#[]⟩] 54)).frozen? ⟨w1.heap.size, o, none⟩ = false := fun o => Lib.frozen_of_heap h2 o
  go_upto_region 2 with fail
  clear n0 n1 n2 nf b2 h2
  generalize w1.alloc _ = w2 at *
  have bX := bX.trans (B2.mono bX.size)
  have k1 := kept_of_below B2 k1
  have k2 := kept_of_below B2 k2
  have k3 := kept_of_below B2 k3
  have hs2 := (unhide HS).below bX
  have hr2 := (unhide HR).below bX
  clear B2
  have ce0 : w2.cell? ⟨w.heap.size + 1, 0, none⟩ = some (.int .i64 18) := by rw [Lib.cell_of_heap k2]; rfl
  have ce3 : w2.cell? ⟨w.heap.size + 1, 3, none⟩ = some (.string es) := by rw [Lib.cell_of_heap k2]; rfl
  have a0 := (bX.cell (p := ⟨g, off, none⟩) hg).trans a0
  have a1 := (bX.cell (p := ⟨g, off + 1, none⟩) hg).trans a1
  have a2 := (bX.cell (p := ⟨g, off + 2, none⟩) hg).trans a2
  have b0 := (bX.cell (p := ⟨g, off + 3, none⟩) hg).trans b0
  have b1 := (bX.cell (p := ⟨g, off + 4, none⟩) hg).trans b1
  have b2 := (bX.cell (p := ⟨g, off + 5, none⟩) hg).trans b2
  have C := rneed_any [⟨ak, aq, an⟩, ⟨bk, bq, bn⟩] _ cap 2 2 1 w2 rfl (by simp) hr2
  have HE : nodeT s p r 18 es et ei [⟨ak, aq, an⟩, ⟨bk, bq, bn⟩] = needT [⟨ak, aq, an⟩, ⟨bk, bq, bn⟩] 2 1 := by
    rw [need_two]
    rfl
  obtain ⟨x, hx⟩ : ∃ x : TR, x = needT [⟨ak, aq, an⟩, ⟨bk, bq, bn⟩] 2 1 := ⟨_, rfl⟩
  rw [← hx] at C HE
  obtain ⟨⟨xk, xo, xn⟩, xe⟩ := x
  have HE := hide HE
  clear hx hs2 hr2
  unfold TR.ret at C
  simp only at C
  go_wp2_with fail
  refine C.mono ?_
  clear C
  rintro e9 w5 ⟨rfl, b5⟩
  have hV5 := kept_of_below b5 k3
  have bb5 := bX.trans (b5.mono bX.size)
  have z0 : w5.cell? ⟨w.heap.size + 2, 0, none⟩ = some (.int .i64 0) := by rw [Lib.cell_of_heap hV5]; rfl
  have z1 : w5.cell? ⟨w.heap.size + 2, 1, none⟩ = some (.int .i64 0) := by rw [Lib.cell_of_heap hV5]; rfl
  have z2 : w5.cell? ⟨w.heap.size + 2, 2, none⟩ = some (.string ⟨#[]⟩) := by rw [Lib.cell_of_heap hV5]; rfl
  have zf : ∀ o, w5.frozen? ⟨w.heap.size + 2, o, none⟩ = false := fun o => Lib.frozen_of_heap hV5 o
  have HQ := hide (set3_all (.int .i64 xk) (.int .i64 xo) (.string xn) hV5 bb5 (Nat.le_add_right _ 2))
  go_wp2
  obtain ⟨q0, q1, q2, qb⟩ := unhide HQ
  exact bodyPost_ret (v := .tuple #[.agg #[.int .i64 xk, .int .i64 xo, .string xn], .int .i64 xe]) (by simp [results, Try.results43, go_sem, q0, q1, q2]) rfl ⟨by rw [unhide HE]; rfl, qb⟩
set_option maxHeartbeats 8000000 in
set_option maxRecDepth 1000000 in
theorem rown_19 (s : SP) (v : Value) (p r : ByteArray) (eb : Bool) (en : Int) (es et ei : ByteArray) (elo : Option Addr) (ell elc : Nat) (ak aq : Int) (an : ByteArray) (bk bq : Int) (bn : ByteArray) (lo : Option Addr) (cap : Nat) (w : World) (_hsm : SmS s) (hs : IsST w v s) (hr : RowT3 w lo [⟨ak, aq, an⟩, ⟨bk, bq, bn⟩]) : Calls Try.prog 43 #[v, .agg #[.int .i64 19, .bool eb, .int .i64 en, .string es, .string et, .string ei, .slice elo ell elc], .slice lo 2 cap] w fun e w' => e = .returned (nodeT s p r 19 es et ei [⟨ak, aq, an⟩, ⟨bk, bq, bn⟩]).ret ∧ Below w.heap.size w w' := by
  obtain ⟨ko, kc, ao, acp, rfl, _, _⟩ := hs.ex2
  obtain ⟨bX, zX, k1, k2, k3⟩ := alloc3 w (.cells #[.slice ko s.ks.length kc, .slice ao s.ac.length acp] 33) (.cells #[.int .i64 19, .bool eb, .int .i64 en, .string es, .string et, .string ei, .slice elo ell elc] 39) (.cells #[.int .i64 0, .int .i64 0, .string ⟨#[]⟩] 54)
  have HS := hide hs
  have HR := hide hr
  obtain ⟨g, off, rfl, hg, hat0⟩ := hr.get (Below.refl _ w) (show 0 < ([⟨ak, aq, an⟩, ⟨bk, bq, bn⟩] : List T3).length by simp)
  have hat0 : AtT3 w g off ⟨ak, aq, an⟩ := by simpa using hat0
  obtain ⟨a0, a1, a2⟩ := hat0
  simp only at a0 a1 a2
  obtain ⟨g', off', eg, _, hat1⟩ := hr.get (Below.refl _ w) (show 1 < ([⟨ak, aq, an⟩, ⟨bk, bq, bn⟩] : List T3).length by simp)
  cases eg
  have hat1 : AtT3 w g (off + 3) ⟨bk, bq, bn⟩ := by simpa using hat1
  obtain ⟨b0, b1, b2⟩ := hat1
  simp only at b0 b1 b2
  clear hs hr
  go_enter Try.func43, Try.ntmps43
  go_upto_region 1 with fail
  generalize ((w.alloc _).alloc _).alloc _ = w1 at *
  clear zX
  have hw1 : w.heap.size ≤ w1.heap.size := bX.size
  have b2 := blw1 w1 (.cells #[.int .i64 0, .int .i64 0, .string ⟨#[]⟩] 54)
  have h2 := alloc_heap w1 (.cells #[.int .i64 0, .int .i64 0, .string ⟨#[]⟩] 54)
  have k4 := h2
  have B2 := b2
  have n0 : (w1.alloc (.cells #[.int .i64 0, .int .i64 0, .string ⟨#[]⟩] 54)).cell? ⟨w1.heap.size, 0, none⟩ = some (.int .i64 0) := by rw [Lib.cell_of_heap h2]; rfl
  have n1 : (w1.alloc (.cells #[.int .i64 0, .int .i64 0, .string ⟨#[]⟩] 54)).cell? ⟨w1.heap.size, 1, none⟩ = some (.int .i64 0) := by rw [Lib.cell_of_heap h2]; rfl
  have n2 : (w1.alloc (.cells #[.int .i64 0, .int .i64 0, .string ⟨#[]⟩] 54)).cell? ⟨w1.heap.size, 2, none⟩ = some (.string ⟨#[]⟩) := by rw [Lib.cell_of_heap h2]; rfl
  have nf : ∀ o, (w1.alloc (.cells #[.int .i64 0, .int .i64 0, .string ⟨#[]⟩] 54)).frozen? ⟨w1.heap.size, o, none⟩ = false := fun o => Lib.frozen_of_heap h2 o
  go_upto_region 2 with fail
  clear n0 n1 n2 nf b2 h2
  generalize w1.alloc _ = w2 at *
  have bX := bX.trans (B2.mono bX.size)
  have k1 := kept_of_below B2 k1
  have k2 := kept_of_below B2 k2
  have k3 := kept_of_below B2 k3
  have hs2 := (unhide HS).below bX
  have hr2 := (unhide HR).below bX
  clear B2
  have ce0 : w2.cell? ⟨w.heap.size + 1, 0, none⟩ = some (.int .i64 19) := by rw [Lib.cell_of_heap k2]; rfl
  have ce3 : w2.cell? ⟨w.heap.size + 1, 3, none⟩ = some (.string es) := by rw [Lib.cell_of_heap k2]; rfl
  have a0 := (bX.cell (p := ⟨g, off, none⟩) hg).trans a0
  have a1 := (bX.cell (p := ⟨g, off + 1, none⟩) hg).trans a1
  have a2 := (bX.cell (p := ⟨g, off + 2, none⟩) hg).trans a2
  have b0 := (bX.cell (p := ⟨g, off + 3, none⟩) hg).trans b0
  have b1 := (bX.cell (p := ⟨g, off + 4, none⟩) hg).trans b1
  have b2 := (bX.cell (p := ⟨g, off + 5, none⟩) hg).trans b2
  have C := rneed_any [⟨ak, aq, an⟩, ⟨bk, bq, bn⟩] _ cap 2 2 1 w2 rfl (by simp) hr2
  have HE : nodeT s p r 19 es et ei [⟨ak, aq, an⟩, ⟨bk, bq, bn⟩] = needT [⟨ak, aq, an⟩, ⟨bk, bq, bn⟩] 2 1 := by
    rw [need_two]
    rfl
  obtain ⟨x, hx⟩ : ∃ x : TR, x = needT [⟨ak, aq, an⟩, ⟨bk, bq, bn⟩] 2 1 := ⟨_, rfl⟩
  rw [← hx] at C HE
  obtain ⟨⟨xk, xo, xn⟩, xe⟩ := x
  have HE := hide HE
  clear hx hs2 hr2
  unfold TR.ret at C
  simp only at C
  go_wp2_with fail
  refine C.mono ?_
  clear C
  rintro e9 w5 ⟨rfl, b5⟩
  have hV5 := kept_of_below b5 k3
  have bb5 := bX.trans (b5.mono bX.size)
  have z0 : w5.cell? ⟨w.heap.size + 2, 0, none⟩ = some (.int .i64 0) := by rw [Lib.cell_of_heap hV5]; rfl
  have z1 : w5.cell? ⟨w.heap.size + 2, 1, none⟩ = some (.int .i64 0) := by rw [Lib.cell_of_heap hV5]; rfl
  have z2 : w5.cell? ⟨w.heap.size + 2, 2, none⟩ = some (.string ⟨#[]⟩) := by rw [Lib.cell_of_heap hV5]; rfl
  have zf : ∀ o, w5.frozen? ⟨w.heap.size + 2, o, none⟩ = false := fun o => Lib.frozen_of_heap hV5 o
  have HQ := hide (set3_all (.int .i64 xk) (.int .i64 xo) (.string xn) hV5 bb5 (Nat.le_add_right _ 2))
  go_wp2
  obtain ⟨q0, q1, q2, qb⟩ := unhide HQ
  exact bodyPost_ret (v := .tuple #[.agg #[.int .i64 xk, .int .i64 xo, .string xn], .int .i64 xe]) (by simp [results, Try.results43, go_sem, q0, q1, q2]) rfl ⟨by rw [unhide HE]; rfl, qb⟩
end Go.Proofs.Ytagnbpobcijakaa

namespace Go.Proofs.Ytagnbpobcijakaa
open Go.RowKit Go.Sort

set_option maxHeartbeats 8000000 in
set_option maxRecDepth 1000000 in
theorem rown_23 (s : SP) (v : Value) (p r : ByteArray) (eb : Bool) (en : Int) (es et ei : ByteArray) (elo : Option Addr) (ell elc : Nat) (ak aq : Int) (an : ByteArray) (bk bq : Int) (bn : ByteArray) (lo : Option Addr) (cap : Nat) (w : World) (_hsm : SmS s) (hs : IsST w v s) (hr : RowT3 w lo [⟨ak, aq, an⟩, ⟨bk, bq, bn⟩]) : Calls Try.prog 43 #[v, .agg #[.int .i64 23, .bool eb, .int .i64 en, .string es, .string et, .string ei, .slice elo ell elc], .slice lo 2 cap] w fun e w' => e = .returned (nodeT s p r 23 es et ei [⟨ak, aq, an⟩, ⟨bk, bq, bn⟩]).ret ∧ Below w.heap.size w w' := by
  obtain ⟨ko, kc, ao, acp, rfl, _, _⟩ := hs.ex2
  obtain ⟨bX, zX, k1, k2, k3⟩ := alloc3 w (.cells #[.slice ko s.ks.length kc, .slice ao s.ac.length acp] 33) (.cells #[.int .i64 23, .bool eb, .int .i64 en, .string es, .string et, .string ei, .slice elo ell elc] 39) (.cells #[.int .i64 0, .int .i64 0, .string ⟨#[]⟩] 54)
  have HS := hide hs
  have HR := hide hr
  obtain ⟨g, off, rfl, hg, hat0⟩ := hr.get (Below.refl _ w) (show 0 < ([⟨ak, aq, an⟩, ⟨bk, bq, bn⟩] : List T3).length by simp)
  have hat0 : AtT3 w g off ⟨ak, aq, an⟩ := by simpa using hat0
  obtain ⟨a0, a1, a2⟩ := hat0
  simp only at a0 a1 a2
  obtain ⟨g', off', eg, _, hat1⟩ := hr.get (Below.refl _ w) (show 1 < ([⟨ak, aq, an⟩, ⟨bk, bq, bn⟩] : List T3).length by simp)
  cases eg
  have hat1 : AtT3 w g (off + 3) ⟨bk, bq, bn⟩ := by simpa using hat1
  obtain ⟨b0, b1, b2⟩ := hat1
  simp only at b0 b1 b2
  clear hs hr
  go_enter Try.func43, Try.ntmps43
  go_upto_region 1 with fail
  generalize ((w.alloc _).alloc _).alloc _ = w1 at *
  clear zX
  have hw1 : w.heap.size ≤ w1.heap.size := bX.size
  have b2 := blw1 w1 (.cells #[.int .i64 0, .int .i64 0, .string ⟨#[]⟩] 54)
  have h2 := alloc_heap w1 (.cells #[.int .i64 0, .int .i64 0, .string ⟨#[]⟩] 54)
  have k4 := h2
  have B2 := b2
  have n0 : (w1.alloc (.cells #[.int .i64 0, .int .i64 0, .string ⟨#[]⟩] 54)).cell? ⟨w1.heap.size, 0, none⟩ = some (.int .i64 0) := by rw [Lib.cell_of_heap h2]; rfl
  have n1 : (w1.alloc (.cells #[.int .i64 0, .int .i64 0, .string ⟨#[]⟩] 54)).cell? ⟨w1.heap.size, 1, none⟩ = some (.int .i64 0) := by rw [Lib.cell_of_heap h2]; rfl
  have n2 : (w1.alloc (.cells #[.int .i64 0, .int .i64 0, .string ⟨#[]⟩] 54)).cell? ⟨w1.heap.size, 2, none⟩ = some (.string ⟨#[]⟩) := by rw [Lib.cell_of_heap h2]; rfl
  have nf : ∀ o, (w1.alloc (.cells #[.int .i64 0, .int .i64 0, .string ⟨#[]⟩] 54)).frozen? ⟨w1.heap.size, o, none⟩ = false := fun o => Lib.frozen_of_heap h2 o
  go_upto_region 2 with fail
  clear n0 n1 n2 nf b2 h2
  generalize w1.alloc _ = w2 at *
  have bX := bX.trans (B2.mono bX.size)
  have k1 := kept_of_below B2 k1
  have k2 := kept_of_below B2 k2
  have k3 := kept_of_below B2 k3
  have hs2 := (unhide HS).below bX
  have hr2 := (unhide HR).below bX
  clear B2
  have ce0 : w2.cell? ⟨w.heap.size + 1, 0, none⟩ = some (.int .i64 23) := by rw [Lib.cell_of_heap k2]; rfl
  have ce3 : w2.cell? ⟨w.heap.size + 1, 3, none⟩ = some (.string es) := by rw [Lib.cell_of_heap k2]; rfl
  have a0 := (bX.cell (p := ⟨g, off, none⟩) hg).trans a0
  have a1 := (bX.cell (p := ⟨g, off + 1, none⟩) hg).trans a1
  have a2 := (bX.cell (p := ⟨g, off + 2, none⟩) hg).trans a2
  have b0 := (bX.cell (p := ⟨g, off + 3, none⟩) hg).trans b0
  have b1 := (bX.cell (p := ⟨g, off + 4, none⟩) hg).trans b1
  have b2 := (bX.cell (p := ⟨g, off + 5, none⟩) hg).trans b2
  have C := rneed_any [⟨ak, aq, an⟩, ⟨bk, bq, bn⟩] _ cap 2 1 1 w2 rfl (by simp) hr2
  have HE : nodeT s p r 23 es et ei [⟨ak, aq, an⟩, ⟨bk, bq, bn⟩] = needT [⟨ak, aq, an⟩, ⟨bk, bq, bn⟩] 1 1 := by
    rw [need_two]
    rfl
  obtain ⟨x, hx⟩ : ∃ x : TR, x = needT [⟨ak, aq, an⟩, ⟨bk, bq, bn⟩] 1 1 := ⟨_, rfl⟩
  rw [← hx] at C HE
  obtain ⟨⟨xk, xo, xn⟩, xe⟩ := x
  have HE := hide HE
  clear hx hs2 hr2
  unfold TR.ret at C
  simp only at C
  go_wp2_with fail
  refine C.mono ?_
  clear C
  rintro e9 w5 ⟨rfl, b5⟩
  have hV5 := kept_of_below b5 k3
  have bb5 := bX.trans (b5.mono bX.size)
  have z0 : w5.cell? ⟨w.heap.size + 2, 0, none⟩ = some (.int .i64 0) := by rw [Lib.cell_of_heap hV5]; rfl
  have z1 : w5.cell? ⟨w.heap.size + 2, 1, none⟩ = some (.int .i64 0) := by rw [Lib.cell_of_heap hV5]; rfl
  have z2 : w5.cell? ⟨w.heap.size + 2, 2, none⟩ = some (.string ⟨#[]⟩) := by rw [Lib.cell_of_heap hV5]; rfl
  have zf : ∀ o, w5.frozen? ⟨w.heap.size + 2, o, none⟩ = false := fun o => Lib.frozen_of_heap hV5 o
  have HQ := hide (set3_all (.int .i64 xk) (.int .i64 xo) (.string xn) hV5 bb5 (Nat.le_add_right _ 2))
  go_wp2
  obtain ⟨q0, q1, q2, qb⟩ := unhide HQ
  exact bodyPost_ret (v := .tuple #[.agg #[.int .i64 xk, .int .i64 xo, .string xn], .int .i64 xe]) (by simp [results, Try.results43, go_sem, q0, q1, q2]) rfl ⟨by rw [unhide HE]; rfl, qb⟩
set_option maxHeartbeats 8000000 in
set_option maxRecDepth 1000000 in
theorem rown_24 (s : SP) (v : Value) (p r : ByteArray) (eb : Bool) (en : Int) (es et ei : ByteArray) (elo : Option Addr) (ell elc : Nat) (ak aq : Int) (an : ByteArray) (bk bq : Int) (bn : ByteArray) (lo : Option Addr) (cap : Nat) (w : World) (_hsm : SmS s) (hs : IsST w v s) (hr : RowT3 w lo [⟨ak, aq, an⟩, ⟨bk, bq, bn⟩]) : Calls Try.prog 43 #[v, .agg #[.int .i64 24, .bool eb, .int .i64 en, .string es, .string et, .string ei, .slice elo ell elc], .slice lo 2 cap] w fun e w' => e = .returned (nodeT s p r 24 es et ei [⟨ak, aq, an⟩, ⟨bk, bq, bn⟩]).ret ∧ Below w.heap.size w w' := by
  obtain ⟨ko, kc, ao, acp, rfl, _, _⟩ := hs.ex2
  obtain ⟨bX, zX, k1, k2, k3⟩ := alloc3 w (.cells #[.slice ko s.ks.length kc, .slice ao s.ac.length acp] 33) (.cells #[.int .i64 24, .bool eb, .int .i64 en, .string es, .string et, .string ei, .slice elo ell elc] 39) (.cells #[.int .i64 0, .int .i64 0, .string ⟨#[]⟩] 54)
  have HS := hide hs
  have HR := hide hr
  obtain ⟨g, off, rfl, hg, hat0⟩ := hr.get (Below.refl _ w) (show 0 < ([⟨ak, aq, an⟩, ⟨bk, bq, bn⟩] : List T3).length by simp)
  have hat0 : AtT3 w g off ⟨ak, aq, an⟩ := by simpa using hat0
  obtain ⟨a0, a1, a2⟩ := hat0
  simp only at a0 a1 a2
  obtain ⟨g', off', eg, _, hat1⟩ := hr.get (Below.refl _ w) (show 1 < ([⟨ak, aq, an⟩, ⟨bk, bq, bn⟩] : List T3).length by simp)
  cases eg
  have hat1 : AtT3 w g (off + 3) ⟨bk, bq, bn⟩ := by simpa using hat1
  obtain ⟨b0, b1, b2⟩ := hat1
  simp only at b0 b1 b2
  clear hs hr
  go_enter Try.func43, Try.ntmps43
  go_upto_region 1 with fail
  generalize ((w.alloc _).alloc _).alloc _ = w1 at *
  clear zX
  have hw1 : w.heap.size ≤ w1.heap.size := bX.size
  have b2 := blw1 w1 (.cells #[.int .i64 0, .int .i64 0, .string ⟨#[]⟩] 54)
  have h2 := alloc_heap w1 (.cells #[.int .i64 0, .int .i64 0, .string ⟨#[]⟩] 54)
  have k4 := h2
  have B2 := b2
  have n0 : (w1.alloc (.cells #[.int .i64 0, .int .i64 0, .string ⟨#[]⟩] 54)).cell? ⟨w1.heap.size, 0, none⟩ = some (.int .i64 0) := by rw [Lib.cell_of_heap h2]; rfl
  have n1 : (w1.alloc (.cells #[.int .i64 0, .int .i64 0, .string ⟨#[]⟩] 54)).cell? ⟨w1.heap.size, 1, none⟩ = some (.int .i64 0) := by rw [Lib.cell_of_heap h2]; rfl
  have n2 : (w1.alloc (.cells #[.int .i64 0, .int .i64 0, .string ⟨#[]⟩] 54)).cell? ⟨w1.heap.size, 2, none⟩ = some (.string ⟨#[]⟩) := by rw [Lib.cell_of_heap h2]; rfl
  have nf : ∀ o, (w1.alloc (.cells #[.int .i64 0, .int .i64 0, .string ⟨#[]⟩] 54)).frozen? ⟨w1.heap.size, o, none⟩ = false := fun o => Lib.frozen_of_heap h2 o
  go_upto_region 2 with fail
  clear n0 n1 n2 nf b2 h2
  generalize w1.alloc _ = w2 at *
  have bX := bX.trans (B2.mono bX.size)
  have k1 := kept_of_below B2 k1
  have k2 := kept_of_below B2 k2
  have k3 := kept_of_below B2 k3
  have hs2 := (unhide HS).below bX
  have hr2 := (unhide HR).below bX
  clear B2
  have ce0 : w2.cell? ⟨w.heap.size + 1, 0, none⟩ = some (.int .i64 24) := by rw [Lib.cell_of_heap k2]; rfl
  have ce3 : w2.cell? ⟨w.heap.size + 1, 3, none⟩ = some (.string es) := by rw [Lib.cell_of_heap k2]; rfl
  have a0 := (bX.cell (p := ⟨g, off, none⟩) hg).trans a0
  have a1 := (bX.cell (p := ⟨g, off + 1, none⟩) hg).trans a1
  have a2 := (bX.cell (p := ⟨g, off + 2, none⟩) hg).trans a2
  have b0 := (bX.cell (p := ⟨g, off + 3, none⟩) hg).trans b0
  have b1 := (bX.cell (p := ⟨g, off + 4, none⟩) hg).trans b1
  have b2 := (bX.cell (p := ⟨g, off + 5, none⟩) hg).trans b2
  have C := rneed_any [⟨ak, aq, an⟩, ⟨bk, bq, bn⟩] _ cap 2 1 1 w2 rfl (by simp) hr2
  have HE : nodeT s p r 24 es et ei [⟨ak, aq, an⟩, ⟨bk, bq, bn⟩] = needT [⟨ak, aq, an⟩, ⟨bk, bq, bn⟩] 1 1 := by
    rw [need_two]
    rfl
  obtain ⟨x, hx⟩ : ∃ x : TR, x = needT [⟨ak, aq, an⟩, ⟨bk, bq, bn⟩] 1 1 := ⟨_, rfl⟩
  rw [← hx] at C HE
  obtain ⟨⟨xk, xo, xn⟩, xe⟩ := x
  have HE := hide HE
  clear hx hs2 hr2
  unfold TR.ret at C
  simp only at C
  go_wp2_with fail
  refine C.mono ?_
  clear C
  rintro e9 w5 ⟨rfl, b5⟩
  have hV5 := kept_of_below b5 k3
  have bb5 := bX.trans (b5.mono bX.size)
  have z0 : w5.cell? ⟨w.heap.size + 2, 0, none⟩ = some (.int .i64 0) := by rw [Lib.cell_of_heap hV5]; rfl
  have z1 : w5.cell? ⟨w.heap.size + 2, 1, none⟩ = some (.int .i64 0) := by rw [Lib.cell_of_heap hV5]; rfl
  have z2 : w5.cell? ⟨w.heap.size + 2, 2, none⟩ = some (.string ⟨#[]⟩) := by rw [Lib.cell_of_heap hV5]; rfl
  have zf : ∀ o, w5.frozen? ⟨w.heap.size + 2, o, none⟩ = false := fun o => Lib.frozen_of_heap hV5 o
  have HQ := hide (set3_all (.int .i64 xk) (.int .i64 xo) (.string xn) hV5 bb5 (Nat.le_add_right _ 2))
  go_wp2
  obtain ⟨q0, q1, q2, qb⟩ := unhide HQ
  exact bodyPost_ret (v := .tuple #[.agg #[.int .i64 xk, .int .i64 xo, .string xn], .int .i64 xe]) (by simp [results, Try.results43, go_sem, q0, q1, q2]) rfl ⟨by rw [unhide HE]; rfl, qb⟩
end Go.Proofs.Ytagnbpobcijakaa
