/-
 Trees that are made to be of a type: what is told of them; what the operations of a region answer (no walk in it).
 chancellaw11: kid, some, plain: what they return.
-/
import Derived.Test.YtagnbpobcijakaaTyWX
import Derived.Test.YtagnbpobcijakaaTyPQ
import Derived.Test.YtagnbpobcijakaaTyRK
namespace Go.Proofs.Ytagnbpobcijakaa
open Go.RowKit Go.Sort

/-- A kind's name. -/
def isKn (s : SP) (n : ByteArray) : Prop := noneB s.names n = false ∧ n ≠ sAction
/-- A type such as may be asked for. -/
def GTy (s : SP) (t : T3) : Prop := ((t.k = 1 ∨ t.k = 2 ∨ t.k = 3) ∧ t.o = 0 ∧ t.n = ⟨#[]⟩) ∨ (t.k = 4 ∧ t.o = 0 ∧ isKn s t.n) ∨ (t.k = 5 ∧ (((t.o = 1 ∨ t.o = 2 ∨ t.o = 3) ∧ t.n = ⟨#[]⟩) ∨ (t.o = 4 ∧ isKn s t.n)))
/-- A tree of a type, in blocks from B on. -/
structure MadeE (B : Nat) (s : SP) (p r : ByteArray) (t : T3) (n : Nat) (w : World) (q : R7) (e : Ex) : Prop where
 is : IsE w (fun b => B ≤ b) q e
 ok : okT e
 sl : slE e = true
 dep : depE e ≤ n
 typ : typE s p r e = (t, 0)
section
variable {B B' : Nat} {s : SP} {p r : ByteArray} {t : T3} {n n' : Nat} {w w' : World} {q : R7} {e : Ex}
theorem MadeE.keep (h : MadeE B s p r t n w q e) (hs : w.heap.size ≤ w'.heap.size) (hk : ∀ b, B ≤ b → b < w.heap.size → w'.heap[b]? = w.heap[b]?) : MadeE B s p r t n w' q e := ⟨IsE.turn hs (fun b hB hl => ⟨hk b hB hl, hB⟩) q e h.is, h.ok, h.sl, h.dep, h.typ⟩
theorem MadeE.up (h : MadeE B s p r t n w q e) (hb : Below w.heap.size w w') : MadeE B s p r t n w' q e := h.keep hb.size fun b _ hl => hb.block b hl
theorem MadeE.weak (h : MadeE B s p r t n w q e) (hB : B' ≤ B) (hn : n ≤ n') : MadeE B' s p r t n' w q e := ⟨IsE.turn (Nat.le_refl _) (fun _ h1 _ => ⟨rfl, Nat.le_trans hB h1⟩) q e h.is, h.ok, h.sl, Nat.le_trans h.dep hn, h.typ⟩
theorem MadeE.pt (h : MadeE B s p r t n w q e) : IsE w PT q e := IsE.turn (Nat.le_refl _) (fun _ _ _ => ⟨rfl, trivial⟩) q e h.is
end
/-- Trees of types, one for one. -/
inductive AllM (B : Nat) (s : SP) (p r : ByteArray) (n : Nat) (w : World) : List T3 → List R7 → List Ex → Prop
 | nil : AllM B s p r n w [] [] []
 | cons {t : T3} {q : R7} {e : Ex} {ts : List T3} {qs : List R7} {es : List Ex} : MadeE B s p r t n w q e → AllM B s p r n w ts qs es → AllM B s p r n w (t :: ts) (q :: qs) (e :: es)
section
variable {B : Nat} {s : SP} {p r : ByteArray} {n : Nat} {w w' : World}
theorem AllM.keep (hs : w.heap.size ≤ w'.heap.size) (hk : ∀ b, B ≤ b → b < w.heap.size → w'.heap[b]? = w.heap[b]?) : ∀ {ts : List T3} {qs : List R7} {es : List Ex}, AllM B s p r n w ts qs es → AllM B s p r n w' ts qs es
 | _, _, _, .nil => .nil
 | _, _, _, .cons h t => .cons (h.keep hs hk) (t.keep hs hk)
theorem AllM.up (hb : Below w.heap.size w w') {ts : List T3} {qs : List R7} {es : List Ex} (h : AllM B s p r n w ts qs es) : AllM B s p r n w' ts qs es := h.keep hb.size fun b _ hl => hb.block b hl
theorem AllM.len : ∀ {ts : List T3} {qs : List R7} {es : List Ex}, AllM B s p r n w ts qs es → qs.length = ts.length ∧ es.length = ts.length
 | _, _, _, .nil => ⟨rfl, rfl⟩
 | _, _, _, .cons _ t => by
  have := t.len
  simp only [List.length_cons]
  omega
theorem AllM.okTs : ∀ {ts : List T3} {qs : List R7} {es : List Ex}, AllM B s p r n w ts qs es → Proofs.Ytagnbpobcijakaa.okTs es ∧ slL es = true ∧ depL es ≤ n
 | _, _, _, .nil => by unfold Proofs.Ytagnbpobcijakaa.okTs slL depL; exact ⟨trivial, rfl, Nat.zero_le _⟩
 | _, _, _, .cons h t => by
  unfold Proofs.Ytagnbpobcijakaa.okTs slL depL
  obtain ⟨h1, h2, h3⟩ := t.okTs
  exact ⟨⟨h.ok, h1⟩, by rw [h.sl, h2]; rfl, Nat.max_le.2 ⟨h.dep, h3⟩⟩
theorem AllM.typ : ∀ {ts : List T3} {qs : List R7} {es : List Ex} (acc : List T3), AllM B s p r n w ts qs es → typL s p r acc es = .inl (acc ++ ts)
 | _, _, _, acc, .nil => by rw [typL, List.append_nil]
 | _, _, _, acc, .cons h t => by
  rw [typL, if_pos (by rw [h.typ]), t.typ, h.typ, List.append_assoc]
  rfl
theorem AllM.snoc {t : T3} {q : R7} {e : Ex} (h' : MadeE B s p r t n w q e) : ∀ {ts : List T3} {qs : List R7} {es : List Ex}, AllM B s p r n w ts qs es → AllM B s p r n w (ts ++ [t]) (qs ++ [q]) (es ++ [e])
 | _, _, _, .nil => .cons h' .nil
 | _, _, _, .cons h t => .cons h (t.snoc h')
theorem isEs_atM {b : Nat} (hb : b < w.heap.size) (hB : B ≤ b) : ∀ (ts : List T3) (qs : List R7) (es : List Ex) (j : Nat), (∀ i (h : i < qs.length), At7 w b ((j + i) * 7) qs[i]) → AllM B s p r n w ts qs es → IsEs w (fun b => B ≤ b) (some ⟨b, 0, none⟩) j es
 | [], [], [], j, _, .nil => by unfold IsEs; trivial
 | _ :: ts, q :: qs, e :: es, j, ha, .cons h t => by
  unfold IsEs
  have h0 := ha 0 (by simp)
  refine ⟨⟨q, b, 0, rfl, hB, hb, by simpa using h0, h.is⟩, isEs_atM hb hB ts qs es (j + 1) (fun i hi => ?_) t⟩
  have := ha (i + 1) (by simpa using hi)
  rw [show j + 1 + i = j + (i + 1) by omega]
  simpa using this
theorem made_row {k : Int} {sx : List UInt8} {t : T3} {ts : List T3} {qs : List R7} {es : List Ex} {lo : Option Addr} {ll cap : Nat} (hr : IsEs w (fun b => B ≤ b) lo 0 es) (ha : AllM B s p r n w ts qs es) (hl : ll = es.length) (hk : 6 ≤ k ∧ k ≤ 25) (hn : k ≠ 6 → ts.length = wantN k) (hlen : ts.length ≤ 100) (hT : nodeT s p r k (ba sx) (ba []) (ba []) ts = (t, 0)) :
  MadeE B s p r t (n + 1) w ⟨k, false, 0, ba sx, ba [], ba [], lo, ll, cap⟩ (.mk k false 0 sx [] [] es) := by
 have hl2 := ha.len
 obtain ⟨h1, h2, h3⟩ := ha.okTs
 refine ⟨?_, ?_, ?_, ?_, ?_⟩
 ·unfold IsE
  exact ⟨rfl, rfl, rfl, rfl, rfl, rfl, hl, hr⟩
 ·unfold okT
  exact ⟨by omega, fun h => by rw [hl2.2]; exact hn h, fun h => by omega, h1⟩
 ·unfold slE
  rw [decide_eq_true (by omega), h2]
  rfl
 ·unfold depE
  omega
 ·rw [typE_mk, ha.typ, List.nil_append]
  exact hT
theorem made_node {b cap : Nat} {k : Int} {sx : List UInt8} {t : T3} {ts : List T3} {qs : List R7} {es : List Ex} {cs : Array Value} {T : TypeId} {fz : Nat × Nat} {ll : Nat} (h : w.heap[b]? = some (.cells cs T fz)) (hc : cs.toList = cellsE qs) (hB : B ≤ b) (ha : AllM B s p r n w ts qs es) (hl : ll = ts.length) (hk : 6 ≤ k ∧ k ≤ 25) (hn : k ≠ 6 → ts.length = wantN k) (hlen : ts.length ≤ 100) (hT : nodeT s p r k (ba sx) (ba []) (ba []) ts = (t, 0)) :
  MadeE B s p r t (n + 1) w ⟨k, false, 0, ba sx, ba [], ba [], some ⟨b, 0, none⟩, ll, cap⟩ (.mk k false 0 sx [] [] es) :=
 made_row (isEs_atM (Array.getElem?_eq_some_iff.1 h).1 hB ts qs es 0 (fun i hi => by rw [Nat.zero_add]; exact at7_block qs h hc i hi) ha) ha (hl.trans ha.len.2.symm) hk hn hlen hT
end
/-- A leaf of a type. -/
theorem made_leaf {B : Nat} {s : SP} {p r : ByteArray} {t : T3} {w : World} (k : Int) (b : Bool) (m : Int) (sx tx ix : List UInt8) (hk : 1 ≤ k ∧ k ≤ 5) (hv : k = 5 → ba sx = sPrin ∨ ba sx = sActn ∨ ba sx = sRes) (hT : leafT s p r k (ba sx) (ba tx) (ba ix) = (t, 0)) : MadeE B s p r t 1 w ⟨k, b, m, ba sx, ba tx, ba ix, none, 0, 0⟩ (.mk k b m sx tx ix []) := by
 refine ⟨?_, ?_, rfl, Nat.le_refl _, ?_⟩
 ·unfold IsE IsEs
  exact ⟨rfl, rfl, rfl, rfl, rfl, rfl, rfl, trivial⟩
 ·unfold okT okTs
  exact ⟨by omega, fun _ => (show ([] : List Ex).length = wantN k from (if_pos hk).symm), hv, trivial⟩
 ·rw [typE_mk, typL]
  show nodeT s p r k (ba sx) (ba tx) (ba ix) [] = _
  unfold nodeT
  rw [if_neg (by omega)]
  exact hT
/-- What may be told of a value, whatever more is laid into memory. -/
structure UpP where
 p : Value → World → Prop
 up : ∀ v w w', Below w.heap.size w w' → p v w → p v w'
inductive Mv where
 | eq (v : Value)
 | up (P : UpP)
def anyP : UpP := ⟨fun _ _ => True, fun _ _ _ _ _ => trivial⟩
def Mv.sp : Mv → Value → World → Prop
 | .eq u, v, _ => v = u
 | .up P, v, w => P.p v w
theorem Mv.lift {w w' : World} (hb : Below w.heap.size w w') : ∀ (s : Mv) (v : Value), s.sp v w → s.sp v w'
 | .eq _, _, h => h
 | .up P, v, h => P.up v w w' hb h
def SpM (l : List Mv) : Nat → Value → World → Prop := fun q v w => (l.getD q (.up anyP)).sp v w
theorem SpM.up {l : List Mv} {w w' : World} (hb : Below w.heap.size w w') : ∀ q u, SpM l q u w → SpM l q u w' := fun _ _ h => Mv.lift hb _ _ h
def rawP : UpP := ⟨fun v w => ∃ (r : R4) (x : Rw), v = .agg #[.int .i64 r.op, .int .i64 r.n, .slice r.so r.sl r.sc, .slice r.lo r.ll r.lc] ∧ IsR w r x, fun _ _ _ hb ⟨r, x, e, h⟩ => ⟨r, x, e, IsR.below hb r x h⟩⟩
def treeP (B : Nat) (s : SP) (p r : ByteArray) (t : T3) (n : Nat) : UpP := ⟨fun v w => ∃ (q : R7) (e : Ex), v = .agg #[.int .i64 q.k, .bool q.b, .int .i64 q.n, .string q.s, .string q.t, .string q.i, .slice q.lo q.ll q.lc] ∧ MadeE B s p r t n w q e, fun _ _ _ hb ⟨q, e, h1, h⟩ => ⟨q, e, h1, h.up hb⟩⟩
def rowP (B : Nat) (s : SP) (p r : ByteArray) (ts : List T3) (n k : Nat) : UpP := ⟨fun v w => ∃ (b : Nat) (qs : List R7) (es : List Ex) (cs : Array Value), v = .slice (some ⟨b, 0, none⟩) k k ∧ B ≤ b ∧ w.heap[b]? = some (.cells cs 39 (0, 0)) ∧ cs.toList = cellsE qs ∧ AllM B s p r n w ts qs es, fun _ _ _ hb ⟨b, qs, es, cs, h1, h2, h3, h4, h5⟩ => ⟨b, qs, es, cs, h1, h2, kept_of_below hb h3, h4, h5.up hb⟩⟩
def strP : UpP := ⟨fun v _ => ∃ b, v = .string b, fun _ _ _ _ h => h⟩
def blkP (f : Nat → Value) (o : Obj) : UpP := ⟨fun v w => ∃ b, v = f b ∧ w.heap[b]? = some o, fun _ _ _ hb ⟨b, e, h⟩ => ⟨b, e, kept_of_below hb h⟩⟩
/-- What a function that makes a tree answers. -/
def MakesT (s : SP) (p r : ByteArray) (t : T3) (n : Nat) (w : World) (e : Ending) (w' : World) : Prop := ∃ q : R7, e = .returned (.agg #[.int .i64 q.k, .bool q.b, .int .i64 q.n, .string q.s, .string q.t, .string q.i, .slice q.lo q.ll q.lc]) ∧ Below w.heap.size w w' ∧ ∃ x, MadeE w.heap.size s p r t n w' q x
end Go.Proofs.Ytagnbpobcijakaa

namespace Go.Proofs.Ytagnbpobcijakaa
open Go.RowKit Go.Sort

theorem set4_below {w0 w : World} {V B : Nat} (a b c d : Value) (hb : Below B w0 w) (hV : B ≤ V) : Below B w0 ((((w.setCell ⟨V, 0, none⟩ a).setCell ⟨V, 1, none⟩ b).setCell ⟨V, 2, none⟩ c).setCell ⟨V, 3, none⟩ d) := (((hb.setCell (p := ⟨V, 0, none⟩) hV _).setCell (p := ⟨V, 1, none⟩) hV _).setCell (p := ⟨V, 2, none⟩) hV _).setCell (p := ⟨V, 3, none⟩) hV _
set_option maxHeartbeats 8000000 in
set_option maxRecDepth 1000000 in
theorem kid11_any (d : R4) (x : Rw) (i : Int) (w : World) (hi : 0 ≤ i ∧ i ≤ 10) (hx : IsR w d x) : Calls Try.prog 59 #[.agg #[.int .i64 d.op, .int .i64 d.n, .slice d.so d.sl d.sc, .slice d.lo d.ll d.lc], .int .i64 i] w fun e w' => (∃ (r : R4) (y : Rw), e = .returned (.agg #[.int .i64 r.op, .int .i64 r.n, .slice r.so r.sl r.sc, .slice r.lo r.ll r.lc]) ∧ IsR w' r y) ∧ Below w.heap.size w w' := by
 obtain ⟨dop, dn, dso, dsl, dsc, dlo, dll, dlc⟩ := d
 obtain ⟨op, n, s, l⟩ := x
 unfold IsR at hx
 obtain ⟨e1, e2, hsl, hs1, hs2, hz, hll, hl1, hks⟩ := hx
 clear e1 e2
 simp only at hsl hs2 hz hll hks
 simp only
 obtain ⟨i0, i10⟩ := hi
 have HSL := hide hsl
 have HZ := hide hz
 have HK := hide hks
 clear hz hks hsl
 by_cases h0 : dll = 0
 ·subst h0
  clear hll
  obtain ⟨bX, zX, k1, k2⟩ := alloc2 w (.cells #[.int .i64 dop, .int .i64 dn, .slice dso dsl dsc, .slice dlo 0 dlc] 49) (.cells #[.int .i64 0, .int .i64 0, .slice none 0 0, .slice none 0 0] 49)
  go_enter Try.func59, Try.ntmps59
  go_upto_region 1 with fail
  generalize (w.alloc _).alloc _ = w1 at *
  clear zX
  obtain ⟨c0, c1, c2, c3⟩ := bl4_ k1
  obtain ⟨z0, z1, z2, z3⟩ := bl4_ k2
  have zf : ∀ o, w1.frozen? ⟨w.heap.size + 1, o, none⟩ = false := fun o => Lib.frozen_of_heap k2 o
  go_wp2
  exact bodyPost_ret (v := .agg #[.int .i64 (wrap64 (wrap64 (dop + 7 * i) + 1)), .int .i64 (wrap64 (dn + i)), .slice dso dsl dsc, .slice none 0 0]) (by simp [results, Try.results59, go_sem, z0, z1, z2, z3]) rfl ⟨⟨(⟨wrap64 (wrap64 (dop + 7 * i) + 1), wrap64 (dn + i), dso, dsl, dsc, none, 0, 0⟩ : R4), (Rw.mk (wrap64 (wrap64 (dop + 7 * i) + 1)) (wrap64 (dn + i)) s [] : Rw), rfl, by
   unfold IsR IsRs
   exact ⟨rfl, rfl, unhide HSL, hs1, hs2, (unhide HZ).below (set4_below _ _ _ _ bX (Nat.le_succ _)), rfl, Nat.zero_le _, trivial⟩⟩, set4_below _ _ _ _ bX (Nat.le_succ _)⟩
 ·obtain ⟨dl, hdl⟩ : ∃ dl : Nat, dl = dll := ⟨_, rfl⟩
  subst hdl
  have hpos : 0 < dl := by omega
  have hdb : dl ≤ 9223372036854775807 := by rw [hll]; exact hl1
  obtain ⟨j, hj⟩ : ∃ j : Nat, (j : Int) = i.tmod (dl : Int) := ⟨(i.tmod dl).toNat, by have := Int.tmod_nonneg (dl : Int) i0; omega⟩
  have hjl : j < dl := by
   have := Int.tmod_lt_of_pos i (show (0 : Int) < dl by omega)
   omega
  have hjl' : j < l.length := by rw [← hll]; exact hjl
  obtain ⟨r, g, off, hlo, hg, ⟨a0, a1, a2, a3⟩, hxr⟩ := IsRs.get l 0 j hjl' (unhide HK)
  obtain ⟨y, hy⟩ : ∃ y, y = l[j]'hjl' := ⟨_, rfl⟩
  rw [← hy] at hxr
  have HXR := hide hxr
  clear hxr hy
  rw [Nat.zero_add] at a0 a1 a2 a3
  subst hlo
  have g0 : ((dl : Int) == 0) = false := by
   have : ¬ (dl : Int) = 0 := by omega
   simpa using this
  have htm : i.tmod (dl : Int) = (j : Int) := hj.symm
  clear hj hll h0 hjl' HZ HSL HK hs1 hs2 hl1
  obtain ⟨bX, zX, k1, k2⟩ := alloc2 w (.cells #[.int .i64 dop, .int .i64 dn, .slice dso dsl dsc, .slice (some ⟨g, off, none⟩) dl dlc] 49) (.cells #[.int .i64 0, .int .i64 0, .slice none 0 0, .slice none 0 0] 49)
  go_enter Try.func59, Try.ntmps59
  go_upto_region 1 with fail
  generalize (w.alloc _).alloc _ = w1 at *
  clear zX
  have c3 : w1.cell? ⟨w.heap.size, 3, none⟩ = some (.slice (some ⟨g, off, none⟩) (dl : Nat) dlc) := lc_ k1 rfl
  have a0 := (bX.cell (p := ⟨g, off + j * 4, none⟩) hg).trans a0
  have a1 := (bX.cell (p := ⟨g, off + j * 4 + 1, none⟩) hg).trans a1
  have a2 := (bX.cell (p := ⟨g, off + j * 4 + 2, none⟩) hg).trans a2
  have a3 := (bX.cell (p := ⟨g, off + j * 4 + 3, none⟩) hg).trans a3
  have hg1 := Nat.lt_of_lt_of_le hg bX.size
  go_upto_region 3 with fail
  clear c3
  refine wp_specs_put 9 (SpS [.eq (.pointer (some ⟨w.heap.size, 3, none⟩)), .eq (.slice (some ⟨g, off, none⟩) (dl : Nat) dlc), .eq (.int .i64 i), .eq (.pointer (some ⟨w.heap.size, 3, none⟩)), .eq (.slice (some ⟨g, off, none⟩) (dl : Nat) dlc), .eq (.int .i64 (dl : Nat)), .eq (.int .i64 (j : Nat)), .eq (.pointer (some ⟨g, off + j * 4, none⟩)), .eq (.agg #[.int .i64 r.op, .int .i64 r.n, .slice r.so r.sl r.sc, .slice r.lo r.ll r.lc])]) (fun w' => Below w1.heap.size w1 w') (by kernel_rfl) (by kernel_rfl) (Below.refl _ w1).drew ?_ ?_
  ·intro q o hq' ho a' w' hR hdep hslot K hK
   have m1 := kept_of_below hR k1
   have c3 : w'.cell? ⟨w.heap.size, 3, none⟩ = some (.slice (some ⟨g, off, none⟩) (dl : Nat) dlc) := lc_ m1 rfl
   have x0 := (hR.cell (p := ⟨g, off + j * 4, none⟩) hg1).trans a0
   have x1 := (hR.cell (p := ⟨g, off + j * 4 + 1, none⟩) hg1).trans a1
   have x2 := (hR.cell (p := ⟨g, off + j * 4 + 2, none⟩) hg1).trans a2
   have x3 := (hR.cell (p := ⟨g, off + j * 4 + 3, none⟩) hg1).trans a3
   have tm := htm
   have dn0 : ¬ dl = 0 := by omega
   clear m1
   have hc : q = 0 ∨ q = 1 ∨ q = 2 ∨ q = 3 ∨ q = 4 ∨ q = 5 ∨ q = 6 ∨ q = 7 ∨ q = 8 := by omega
   rcases hc with rfl | rfl | rfl | rfl | rfl | rfl | rfl | rfl | rfl
   ·cases ho
    have e0 : a'.tmps.getD 2 undef = .pointer (some ⟨w.heap.size, 0, none⟩) := hslot 2 (by decide)
    clear c3 x0 x1 x2 x3 tm dn0
    unfold Oper.wp
    go_simp
    exact hK _ _ rfl hR (fun _ _ h => h)
   ·cases ho
    have e0 : a'.tmps.getD 22 undef = .pointer (some ⟨w.heap.size, 3, none⟩) := hdep 0 (by kernel_rfl)
    have e0' := gd_ e0
    clear x0 x1 x2 x3 tm dn0
    unfold Oper.wp
    go_simp
    exact hK _ _ rfl hR (fun _ _ h => h)
   ·cases ho
    have e0 : a'.tmps.getD 1 undef = .int .i64 i := hslot 1 (by decide)
    clear c3 x0 x1 x2 x3 tm dn0
    unfold Oper.wp
    go_simp
    exact hK _ _ rfl hR (fun _ _ h => h)
   ·cases ho
    have e0 : a'.tmps.getD 2 undef = .pointer (some ⟨w.heap.size, 0, none⟩) := hslot 2 (by decide)
    clear c3 x0 x1 x2 x3 tm dn0
    unfold Oper.wp
    go_simp
    exact hK _ _ rfl hR (fun _ _ h => h)
   ·cases ho
    have e0 : a'.tmps.getD 25 undef = .pointer (some ⟨w.heap.size, 3, none⟩) := hdep 3 (by kernel_rfl)
    have e0' := gd_ e0
    clear x0 x1 x2 x3 tm dn0
    unfold Oper.wp
    go_simp
    exact hK _ _ rfl hR (fun _ _ h => h)
   ·cases ho
    have e0 : a'.tmps.getD 26 undef = .slice (some ⟨g, off, none⟩) (dl : Nat) dlc := hdep 4 (by kernel_rfl)
    have e0' := gd_ e0
    clear c3 x0 x1 x2 x3 tm dn0
    unfold Oper.wp
    go_simp
    exact hK _ _ rfl hR (fun _ _ h => h)
   ·cases ho
    have e0 : a'.tmps.getD 24 undef = .int .i64 i := hdep 2 (by kernel_rfl)
    have e0' := gd_ e0
    have e1 : a'.tmps.getD 27 undef = .int .i64 (dl : Nat) := hdep 5 (by kernel_rfl)
    have e1' := gd_ e1
    clear c3 x0 x1 x2 x3
    unfold Oper.wp
    go_simp
    exact hK _ _ rfl hR (fun _ _ h => h)
   ·cases ho
    have e0 : a'.tmps.getD 23 undef = .slice (some ⟨g, off, none⟩) (dl : Nat) dlc := hdep 1 (by kernel_rfl)
    have e0' := gd_ e0
    have e1 : a'.tmps.getD 28 undef = .int .i64 (j : Nat) := hdep 6 (by kernel_rfl)
    have e1' := gd_ e1
    clear c3 x0 x1 x2 x3 tm dn0
    unfold Oper.wp
    go_simp
    exact hK _ _ rfl hR (fun _ _ h => h)
   ·cases ho
    have e0 : a'.tmps.getD 29 undef = .pointer (some ⟨g, off + j * 4, none⟩) := hdep 7 (by kernel_rfl)
    have e0' := gd_ e0
    clear c3 tm dn0
    unfold Oper.wp
    go_simp
    exact hK _ _ rfl hR (fun _ _ h => h)
  ·intro v w' hR hall
   have f0 : v 0 = .pointer (some ⟨w.heap.size, 3, none⟩) := hall 0 (by decide)
   have f1 : v 1 = .slice (some ⟨g, off, none⟩) (dl : Nat) dlc := hall 1 (by decide)
   have f2 : v 2 = .int .i64 i := hall 2 (by decide)
   have f3 : v 3 = .pointer (some ⟨w.heap.size, 3, none⟩) := hall 3 (by decide)
   have f4 : v 4 = .slice (some ⟨g, off, none⟩) (dl : Nat) dlc := hall 4 (by decide)
   have f5 : v 5 = .int .i64 (dl : Nat) := hall 5 (by decide)
   have f6 : v 6 = .int .i64 (j : Nat) := hall 6 (by decide)
   have f7 : v 7 = .pointer (some ⟨g, off + j * 4, none⟩) := hall 7 (by decide)
   have f8 : v 8 = .agg #[.int .i64 r.op, .int .i64 r.n, .slice r.so r.sl r.sc, .slice r.lo r.ll r.lc] := hall 8 (by decide)
   clear hall
   simp only [putAll, dstOf, List.getElem?_cons_zero, List.getElem?_cons_succ, Option.bind_some, List.drop_succ_cons, List.drop_zero, f0, f1, f2, f3, f4, f5, f6, f7, f8]
   clear f0 f1 f2 f3 f4 f5 f6 f7 f8
   simp only [Act.put, List.setIfInBounds_toArray, List.set_cons_succ, List.set_cons_zero]
   have hV := kept_of_below hR k2
   obtain ⟨z0, z1, z2, z3⟩ := bl4_ hV
   have zf : ∀ o, w'.frozen? ⟨w.heap.size + 1, o, none⟩ = false := fun o => Lib.frozen_of_heap hV o
   have b0 := bX.trans (hR.mono bX.size)
   clear htm
   go_wp2
   exact bodyPost_ret (v := .agg #[.int .i64 r.op, .int .i64 r.n, .slice r.so r.sl r.sc, .slice r.lo r.ll r.lc]) (by simp [results, Try.results59, go_sem, z0, z1, z2, z3]) rfl ⟨⟨r, _, rfl, IsR.below (set4_below _ _ _ _ b0 (Nat.le_succ _)) r _ (unhide HXR)⟩, set4_below _ _ _ _ b0 (Nat.le_succ _)⟩
set_option maxHeartbeats 8000000 in
set_option maxRecDepth 1000000 in
theorem some11_any (s : SP) (ko ao : Option Addr) (kc acp : Nat) (p ac r : ByteArray) (dp n : Int) (w : World) (hp : isKn s p) (hr : isKn s r) : Calls Try.prog 13 #[.agg #[.slice ko s.ks.length kc, .slice ao s.ac.length acp, .string p, .string ac, .string r, .int .i64 dp], .int .i64 n] w fun e w' => ∃ t : T3, e = .returned (.agg #[.int .i64 t.k, .int .i64 t.o, .string t.n]) ∧ Below w.heap.size w w' ∧ GTy s t ∧ t.k ≠ 5 := by
 have CW := fun w' => within11_any n 5 (by decide) (by decide) w'
 obtain ⟨m, hm⟩ : ∃ m, m = n % 5 := ⟨_, rfl⟩
 rw [← hm] at CW
 have hc : m = 0 ∨ m = 1 ∨ m = 2 ∨ m = 3 ∨ m = 4 := by omega
 clear hm
 obtain ⟨bX, zX, k1, k2⟩ := alloc2 w (.cells #[.slice ko s.ks.length kc, .slice ao s.ac.length acp, .string p, .string ac, .string r, .int .i64 dp] 52) (.cells #[.int .i64 0, .int .i64 0, .string ⟨#[]⟩] 54)
 go_enter Try.func13, Try.ntmps13
 go_upto_region 1 with fail
 generalize (w.alloc _).alloc _ = w1 at *
 clear zX
 obtain ⟨mk0, mk1, mk2, mk3, mk4, mk5⟩ := bl6_ k1
 go_wp2_with fail
 refine (CW _).mono ?_
 clear CW
 rintro e9 w9 ⟨rfl, hw9⟩
 have hw9 := hw9.symm
 subst hw9
 rcases hc with rfl | rfl | rfl | rfl | rfl
 ·have HG := hide (show GTy s ⟨1, 0, ⟨#[]⟩⟩ from .inl ⟨.inl rfl, rfl, rfl⟩)
  obtain ⟨z0, z1, z2⟩ := bl3_ k2
  have zf : ∀ o, w1.frozen? ⟨w.heap.size + 1, o, none⟩ = false := fun o => Lib.frozen_of_heap k2 o
  have HQ := hide (set3_all (.int .i64 1) (.int .i64 0) (.string ⟨#[]⟩) k2 bX (Nat.le_succ _))
  go_wp2
  obtain ⟨q0, q1, q2, qb⟩ := unhide HQ
  exact bodyPost_ret (v := .agg #[.int .i64 1, .int .i64 0, .string ⟨#[]⟩]) (by simp [results, Try.results13, go_sem, q0, q1, q2]) rfl ⟨⟨1, 0, ⟨#[]⟩⟩, rfl, qb, unhide HG, (show (1 : Int) ≠ 5 by decide)⟩
 ·have HG := hide (show GTy s ⟨2, 0, ⟨#[]⟩⟩ from .inl ⟨.inr (.inl rfl), rfl, rfl⟩)
  obtain ⟨z0, z1, z2⟩ := bl3_ k2
  have zf : ∀ o, w1.frozen? ⟨w.heap.size + 1, o, none⟩ = false := fun o => Lib.frozen_of_heap k2 o
  have HQ := hide (set3_all (.int .i64 2) (.int .i64 0) (.string ⟨#[]⟩) k2 bX (Nat.le_succ _))
  go_wp2
  obtain ⟨q0, q1, q2, qb⟩ := unhide HQ
  exact bodyPost_ret (v := .agg #[.int .i64 2, .int .i64 0, .string ⟨#[]⟩]) (by simp [results, Try.results13, go_sem, q0, q1, q2]) rfl ⟨⟨2, 0, ⟨#[]⟩⟩, rfl, qb, unhide HG, (show (2 : Int) ≠ 5 by decide)⟩
 ·have HG := hide (show GTy s ⟨3, 0, ⟨#[]⟩⟩ from .inl ⟨.inr (.inr rfl), rfl, rfl⟩)
  obtain ⟨z0, z1, z2⟩ := bl3_ k2
  have zf : ∀ o, w1.frozen? ⟨w.heap.size + 1, o, none⟩ = false := fun o => Lib.frozen_of_heap k2 o
  have HQ := hide (set3_all (.int .i64 3) (.int .i64 0) (.string ⟨#[]⟩) k2 bX (Nat.le_succ _))
  go_wp2
  obtain ⟨q0, q1, q2, qb⟩ := unhide HQ
  exact bodyPost_ret (v := .agg #[.int .i64 3, .int .i64 0, .string ⟨#[]⟩]) (by simp [results, Try.results13, go_sem, q0, q1, q2]) rfl ⟨⟨3, 0, ⟨#[]⟩⟩, rfl, qb, unhide HG, (show (3 : Int) ≠ 5 by decide)⟩
 ·have HG := hide (show GTy s ⟨4, 0, p⟩ from .inr (.inl ⟨rfl, rfl, hp⟩))
  obtain ⟨z0, z1, z2⟩ := bl3_ k2
  have zf : ∀ o, w1.frozen? ⟨w.heap.size + 1, o, none⟩ = false := fun o => Lib.frozen_of_heap k2 o
  have HQ := hide (set3_all (.int .i64 4) (.int .i64 0) (.string p) k2 bX (Nat.le_succ _))
  go_wp2
  obtain ⟨q0, q1, q2, qb⟩ := unhide HQ
  exact bodyPost_ret (v := .agg #[.int .i64 4, .int .i64 0, .string p]) (by simp [results, Try.results13, go_sem, q0, q1, q2]) rfl ⟨⟨4, 0, p⟩, rfl, qb, unhide HG, (show (4 : Int) ≠ 5 by decide)⟩
 ·have HG := hide (show GTy s ⟨4, 0, r⟩ from .inr (.inl ⟨rfl, rfl, hr⟩))
  obtain ⟨z0, z1, z2⟩ := bl3_ k2
  have zf : ∀ o, w1.frozen? ⟨w.heap.size + 1, o, none⟩ = false := fun o => Lib.frozen_of_heap k2 o
  have HQ := hide (set3_all (.int .i64 4) (.int .i64 0) (.string r) k2 bX (Nat.le_succ _))
  go_wp2
  obtain ⟨q0, q1, q2, qb⟩ := unhide HQ
  exact bodyPost_ret (v := .agg #[.int .i64 4, .int .i64 0, .string r]) (by simp [results, Try.results13, go_sem, q0, q1, q2]) rfl ⟨⟨4, 0, r⟩, rfl, qb, unhide HG, (show (4 : Int) ≠ 5 by decide)⟩
set_option maxHeartbeats 8000000 in
set_option maxRecDepth 1000000 in
theorem within11_big (a n : Int) (hn : n = 4611686018427387904) (w : World) :
  Calls Try.prog 16 #[.int .i64 a, .int .i64 n] w fun e w' => (∃ m, e = .returned (.int .i64 m)) ∧ w' = w := by
 go_enter Try.func16, Try.ntmps16
 subst hn
 go_wp2
 ·go_ret
  exact ⟨⟨_, rfl⟩, rfl⟩
 ·go_ret
  exact ⟨⟨_, rfl⟩, rfl⟩
set_option maxRecDepth 100000 in
theorem field_id (a b : ByteArray) (W : World) : (Instr.field 36 (.agg #[.string a, .string b]) 1).run Try.prog W = .ok (.string b) W := by
 unfold Instr.field
 simp [go_sem, asAgg]
theorem alloc5 (w : World) (o1 o2 o3 o4 o5 : Obj) : Below w.heap.size w (((((w.alloc o1).alloc o2).alloc o3).alloc o4).alloc o5) ∧ w.heap.size + 5 ≤ (((((w.alloc o1).alloc o2).alloc o3).alloc o4).alloc o5).heap.size ∧ (((((w.alloc o1).alloc o2).alloc o3).alloc o4).alloc o5).heap[w.heap.size]? = some o1 ∧ (((((w.alloc o1).alloc o2).alloc o3).alloc o4).alloc o5).heap[w.heap.size + 1]? = some o2 ∧ (((((w.alloc o1).alloc o2).alloc o3).alloc o4).alloc o5).heap[w.heap.size + 2]? = some o3 ∧ (((((w.alloc o1).alloc o2).alloc o3).alloc o4).alloc o5).heap[w.heap.size + 3]? = some o4 ∧ (((((w.alloc o1).alloc o2).alloc o3).alloc o4).alloc o5).heap[w.heap.size + 4]? = some o5 := by
 obtain ⟨b, _, h1, h2, h3, h4⟩ := alloc4 w o1 o2 o3 o4
 have b5 := blw1 ((((w.alloc o1).alloc o2).alloc o3).alloc o4) o5
 have h5 := alloc_heap ((((w.alloc o1).alloc o2).alloc o3).alloc o4) o5
 rw [show ((((w.alloc o1).alloc o2).alloc o3).alloc o4).heap.size = w.heap.size + 4 by simp] at h5
 exact ⟨b.trans (b5.mono b.size), by simp, kept_of_below b5 h1, kept_of_below b5 h2, kept_of_below b5 h3, kept_of_below b5 h4, h5⟩
set_option maxHeartbeats 8000000 in
set_option maxRecDepth 1000000 in
theorem plain11_1 (s : SP) (ko ao : Option Addr) (kc acp : Nat) (p ac r : ByteArray) (d : R4) (w : World) : Calls Try.prog 44 #[.agg #[.slice ko s.ks.length kc, .slice ao s.ac.length acp], .agg #[.string p, .string ac, .string r], .agg #[.int .i64 1, .int .i64 0, .string ⟨#[]⟩], .agg #[.int .i64 d.op, .int .i64 d.n, .slice d.so d.sl d.sc, .slice d.lo d.ll d.lc]] w fun e w' => MakesT s p r ⟨1, 0, ⟨#[]⟩⟩ 1 w e w' := by
 obtain ⟨bX, zX, k1, k2, k3, k4, k5⟩ := alloc5 w (.cells #[.slice ko s.ks.length kc, .slice ao s.ac.length acp] 33) (.cells #[.string p, .string ac, .string r] 42) (.cells #[.int .i64 1, .int .i64 0, .string ⟨#[]⟩] 54) (.cells #[.int .i64 d.op, .int .i64 d.n, .slice d.so d.sl d.sc, .slice d.lo d.ll d.lc] 49) (.cells #[.int .i64 0, .bool false, .int .i64 0, .string ⟨#[]⟩, .string ⟨#[]⟩, .string ⟨#[]⟩, .slice none 0 0] 39)
 go_enter Try.func44, Try.ntmps44
 go_upto_region 1 with fail
 generalize ((((w.alloc _).alloc _).alloc _).alloc _).alloc _ = w1 at *
 clear zX
 obtain ⟨cs0, cs1⟩ := bl2_ k1
 obtain ⟨cn0, cn1, cn2⟩ := bl3_ k2
 obtain ⟨ct0, ct1, ct2⟩ := bl3_ k3
 obtain ⟨cr0, cr1, cr2, cr3⟩ := bl4_ k4
 obtain ⟨tb, htb⟩ : ∃ tb : Bool, tb = (d.n.tmod 2 == 0) := ⟨_, rfl⟩
 have htb2 := htb.symm
 clear htb
 obtain ⟨y0, y1, y2, y3, y4, y5, y6, yf⟩ := blk7 k5
 go_wp2
 exact bodyPost_ret (v := .agg #[.int .i64 1, .bool tb, .int .i64 0, .string ⟨#[]⟩, .string ⟨#[]⟩, .string ⟨#[]⟩, .slice none 0 0]) (by simp [results, Try.results44, go_sem, y0, y1, y2, y3, y4, y5, y6]) rfl ⟨⟨1, tb, 0, ⟨#[]⟩, ⟨#[]⟩, ⟨#[]⟩, none, 0, 0⟩, rfl, set7S_below bX (Nat.le_add_right _ 4) _ _ _ _ _ _ _, .mk 1 tb 0 [] [] [] [], made_leaf 1 tb 0 [] [] [] (by decide) (fun h => absurd h (by decide)) rfl⟩
set_option maxHeartbeats 8000000 in
set_option maxRecDepth 1000000 in
theorem plain11_2 (s : SP) (ko ao : Option Addr) (kc acp : Nat) (p ac r : ByteArray) (d : R4) (w : World) : Calls Try.prog 44 #[.agg #[.slice ko s.ks.length kc, .slice ao s.ac.length acp], .agg #[.string p, .string ac, .string r], .agg #[.int .i64 2, .int .i64 0, .string ⟨#[]⟩], .agg #[.int .i64 d.op, .int .i64 d.n, .slice d.so d.sl d.sc, .slice d.lo d.ll d.lc]] w fun e w' => MakesT s p r ⟨2, 0, ⟨#[]⟩⟩ 1 w e w' := by
 obtain ⟨bX, zX, k1, k2, k3, k4, k5⟩ := alloc5 w (.cells #[.slice ko s.ks.length kc, .slice ao s.ac.length acp] 33) (.cells #[.string p, .string ac, .string r] 42) (.cells #[.int .i64 2, .int .i64 0, .string ⟨#[]⟩] 54) (.cells #[.int .i64 d.op, .int .i64 d.n, .slice d.so d.sl d.sc, .slice d.lo d.ll d.lc] 49) (.cells #[.int .i64 0, .bool false, .int .i64 0, .string ⟨#[]⟩, .string ⟨#[]⟩, .string ⟨#[]⟩, .slice none 0 0] 39)
 go_enter Try.func44, Try.ntmps44
 go_upto_region 1 with fail
 generalize ((((w.alloc _).alloc _).alloc _).alloc _).alloc _ = w1 at *
 clear zX
 obtain ⟨cs0, cs1⟩ := bl2_ k1
 obtain ⟨cn0, cn1, cn2⟩ := bl3_ k2
 obtain ⟨ct0, ct1, ct2⟩ := bl3_ k3
 obtain ⟨cr0, cr1, cr2, cr3⟩ := bl4_ k4
 have CW := fun w' => within11_big d.n 4611686018427387904 rfl w'
 go_wp2_with fail
 refine (CW _).mono ?_
 clear CW
 rintro e9 w9 ⟨⟨m, rfl⟩, hw9⟩
 have hw9 := hw9.symm
 subst hw9
 obtain ⟨y0, y1, y2, y3, y4, y5, y6, yf⟩ := blk7 k5
 go_wp2
 exact bodyPost_ret (v := .agg #[.int .i64 2, .bool false, .int .i64 m, .string ⟨#[]⟩, .string ⟨#[]⟩, .string ⟨#[]⟩, .slice none 0 0]) (by simp [results, Try.results44, go_sem, y0, y1, y2, y3, y4, y5, y6]) rfl ⟨⟨2, false, m, ⟨#[]⟩, ⟨#[]⟩, ⟨#[]⟩, none, 0, 0⟩, rfl, set7S_below bX (Nat.le_add_right _ 4) _ _ _ _ _ _ _, .mk 2 false m [] [] [] [], made_leaf 2 false m [] [] [] (by decide) (fun h => absurd h (by decide)) rfl⟩
set_option maxHeartbeats 8000000 in
set_option maxRecDepth 1000000 in
theorem plain11_3 (s : SP) (ko ao : Option Addr) (kc acp : Nat) (p ac r : ByteArray) (d : R4) (x : Rw) (w : World) (hx : IsR w d x) : Calls Try.prog 44 #[.agg #[.slice ko s.ks.length kc, .slice ao s.ac.length acp], .agg #[.string p, .string ac, .string r], .agg #[.int .i64 3, .int .i64 0, .string ⟨#[]⟩], .agg #[.int .i64 d.op, .int .i64 d.n, .slice d.so d.sl d.sc, .slice d.lo d.ll d.lc]] w fun e w' => MakesT s p r ⟨3, 0, ⟨#[]⟩⟩ 1 w e w' := by
 obtain ⟨op, n, xs, l⟩ := x
 unfold IsR at hx
 obtain ⟨e1, e2, hsl, hs1, hs2, hz, e3, e4, e5⟩ := hx
 clear e1 e2 e3 e4 e5
 have CU := fun w' (hb : Below w.heap.size w w') => uid5_any 0 xs d.so d.sc w' hs1 hs2 (hz.below hb)
 rw [← hsl] at CU
 clear hsl hs1 hs2 hz
 obtain ⟨ix, hix⟩ : ∃ ix, ix = idt5 xs := ⟨_, rfl⟩
 rw [← hix] at CU
 clear hix
 obtain ⟨bX, zX, k1, k2, k3, k4, k5⟩ := alloc5 w (.cells #[.slice ko s.ks.length kc, .slice ao s.ac.length acp] 33) (.cells #[.string p, .string ac, .string r] 42) (.cells #[.int .i64 3, .int .i64 0, .string ⟨#[]⟩] 54) (.cells #[.int .i64 d.op, .int .i64 d.n, .slice d.so d.sl d.sc, .slice d.lo d.ll d.lc] 49) (.cells #[.int .i64 0, .bool false, .int .i64 0, .string ⟨#[]⟩, .string ⟨#[]⟩, .string ⟨#[]⟩, .slice none 0 0] 39)
 go_enter Try.func44, Try.ntmps44
 go_upto_region 1 with fail
 generalize ((((w.alloc _).alloc _).alloc _).alloc _).alloc _ = w1 at *
 clear zX
 obtain ⟨cs0, cs1⟩ := bl2_ k1
 obtain ⟨cn0, cn1, cn2⟩ := bl3_ k2
 obtain ⟨ct0, ct1, ct2⟩ := bl3_ k3
 obtain ⟨cr0, cr1, cr2, cr3⟩ := bl4_ k4
 have CU := CU w1 bX
 have HF := fun b => field_id (ba (tyI5 0)) b
 go_wp2_with fail
 refine CU.mono ?_
 clear CU
 rintro e9 w5 ⟨rfl, b5⟩
 have b05 := bX.trans (b5.mono bX.size)
 have hV5 := kept_of_below b5 k5
 obtain ⟨y0, y1, y2, y3, y4, y5, y6, yf⟩ := blk7 hV5
 go_wp2
 exact bodyPost_ret (v := .agg #[.int .i64 3, .bool false, .int .i64 0, .string (ba ix), .string ⟨#[]⟩, .string ⟨#[]⟩, .slice none 0 0]) (by simp [results, Try.results44, go_sem, y0, y1, y2, y3, y4, y5, y6]) rfl ⟨⟨3, false, 0, ba ix, ⟨#[]⟩, ⟨#[]⟩, none, 0, 0⟩, rfl, set7S_below b05 (Nat.le_add_right _ 4) _ _ _ _ _ _ _, .mk 3 false 0 ix [] [] [], made_leaf 3 false 0 ix [] [] (by decide) (fun h => absurd h (by decide)) rfl⟩
set_option maxHeartbeats 8000000 in
set_option maxRecDepth 1000000 in
theorem plain11_4 (s : SP) (ko ao : Option Addr) (kc acp : Nat) (p ac r : ByteArray) (d : R4) (tn : ByteArray) (w : World) (hkn : isKn s tn) : Calls Try.prog 44 #[.agg #[.slice ko s.ks.length kc, .slice ao s.ac.length acp], .agg #[.string p, .string ac, .string r], .agg #[.int .i64 4, .int .i64 0, .string tn], .agg #[.int .i64 d.op, .int .i64 d.n, .slice d.so d.sl d.sc, .slice d.lo d.ll d.lc]] w fun e w' => MakesT s p r ⟨4, 0, tn⟩ 1 w e w' := by
 obtain ⟨m3, hm3⟩ : ∃ m3, m3 = d.n.tmod 3 := ⟨_, rfl⟩
 have hm3' := hm3.symm
 clear hm3
 obtain ⟨bX, zX, k1, k2, k3, k4, k5⟩ := alloc5 w (.cells #[.slice ko s.ks.length kc, .slice ao s.ac.length acp] 33) (.cells #[.string p, .string ac, .string r] 42) (.cells #[.int .i64 4, .int .i64 0, .string tn] 54) (.cells #[.int .i64 d.op, .int .i64 d.n, .slice d.so d.sl d.sc, .slice d.lo d.ll d.lc] 49) (.cells #[.int .i64 0, .bool false, .int .i64 0, .string ⟨#[]⟩, .string ⟨#[]⟩, .string ⟨#[]⟩, .slice none 0 0] 39)
 go_enter Try.func44, Try.ntmps44
 go_upto_region 1 with fail
 generalize ((((w.alloc _).alloc _).alloc _).alloc _).alloc _ = w1 at *
 clear zX
 obtain ⟨cs0, cs1⟩ := bl2_ k1
 obtain ⟨cn0, cn1, cn2⟩ := bl3_ k2
 obtain ⟨ct0, ct1, ct2⟩ := bl3_ k3
 obtain ⟨cr0, cr1, cr2, cr3⟩ := bl4_ k4
 have HP := hide (fun (h : tn = p) => (show leafT s p r 5 (ba [112, 114, 105, 110, 99, 105, 112, 97, 108]) (ba []) (ba []) = (⟨4, 0, tn⟩, 0) from by subst h; rfl))
 have HR := hide (fun (h : tn = r) => (show leafT s p r 5 (ba [114, 101, 115, 111, 117, 114, 99, 101]) (ba []) (ba []) = (⟨4, 0, tn⟩, 0) from by subst h; rfl))
 have HM := hide (fun (CC : UInt8) (w' : World) => (show MadeE w.heap.size s p r ⟨4, 0, tn⟩ 1 w' ⟨4, false, 0, ⟨#[]⟩, tn, ⟨#[CC]⟩, none, 0, 0⟩ (.mk 4 false 0 [] tn.data.toList [CC] []) from by
  have := made_leaf (B := w.heap.size) (s := s) (p := p) (r := r) (t := ⟨4, 0, tn⟩) (w := w') 4 false 0 [] tn.data.toList [CC] (by decide) (fun h => absurd h (by decide)) (by
   rw [ba_back]
   show entT tn (namedB s tn _) = _
   unfold namedB
   rw [if_neg hkn.2, hkn.1]
   rfl)
  rw [ba_back] at this
  exact this))
 by_cases h1 : tn = p ∧ m3 = 0
 ·obtain ⟨h1, h2⟩ := h1
  have HT := unhide HP h1
  have g1 : (tn.toList == p.toList) = true := by rw [h1]; exact beq_self_eq_true _
  have g2 : (m3 == 0) = true := by simpa using h2
  have HTt := hide HT
  clear HT h1 h2 HM HP HR
  obtain ⟨y0, y1, y2, y3, y4, y5, y6, yf⟩ := blk7 k5
  go_wp2
  exact bodyPost_ret (v := .agg #[.int .i64 5, .bool false, .int .i64 0, .string ⟨#[112, 114, 105, 110, 99, 105, 112, 97, 108]⟩, .string ⟨#[]⟩, .string ⟨#[]⟩, .slice none 0 0]) (by simp [results, Try.results44, go_sem, y0, y1, y2, y3, y4, y5, y6]) rfl ⟨⟨5, false, 0, ⟨#[112, 114, 105, 110, 99, 105, 112, 97, 108]⟩, ⟨#[]⟩, ⟨#[]⟩, none, 0, 0⟩, rfl, set7S_below bX (Nat.le_add_right _ 4) _ _ _ _ _ _ _, .mk 5 false 0 [112, 114, 105, 110, 99, 105, 112, 97, 108] [] [] [], made_leaf 5 false 0 [112, 114, 105, 110, 99, 105, 112, 97, 108] [] [] (by decide) (fun _ => .inl rfl) (unhide HTt)⟩
 by_cases h2 : tn = r ∧ m3 = 1
 ·obtain ⟨h2, h3⟩ := h2
  have HT := unhide HR h2
  have g1 : (tn.toList == r.toList) = true := by rw [h2]; exact beq_self_eq_true _
  have g2 : (m3 == 0) = false := by rw [h3]; rfl
  have g3 : (m3 == 1) = true := by rw [h3]; rfl
  have HTt := hide HT
  clear HT h1 h2 h3 HM HP HR
  by_cases hp : tn = p
  ·have g0 : (tn.toList == p.toList) = true := by rw [hp]; exact beq_self_eq_true _
   clear hp
   obtain ⟨y0, y1, y2, y3, y4, y5, y6, yf⟩ := blk7 k5
   go_wp2
   exact bodyPost_ret (v := .agg #[.int .i64 5, .bool false, .int .i64 0, .string ⟨#[114, 101, 115, 111, 117, 114, 99, 101]⟩, .string ⟨#[]⟩, .string ⟨#[]⟩, .slice none 0 0]) (by simp [results, Try.results44, go_sem, y0, y1, y2, y3, y4, y5, y6]) rfl ⟨⟨5, false, 0, ⟨#[114, 101, 115, 111, 117, 114, 99, 101]⟩, ⟨#[]⟩, ⟨#[]⟩, none, 0, 0⟩, rfl, set7S_below bX (Nat.le_add_right _ 4) _ _ _ _ _ _ _, .mk 5 false 0 [114, 101, 115, 111, 117, 114, 99, 101] [] [] [], made_leaf 5 false 0 [114, 101, 115, 111, 117, 114, 99, 101] [] [] (by decide) (fun _ => .inr (.inr rfl)) (unhide HTt)⟩
  ·have g0 : (tn.toList == p.toList) = false := bytes_ne hp
   clear hp
   obtain ⟨y0, y1, y2, y3, y4, y5, y6, yf⟩ := blk7 k5
   go_wp2
   exact bodyPost_ret (v := .agg #[.int .i64 5, .bool false, .int .i64 0, .string ⟨#[114, 101, 115, 111, 117, 114, 99, 101]⟩, .string ⟨#[]⟩, .string ⟨#[]⟩, .slice none 0 0]) (by simp [results, Try.results44, go_sem, y0, y1, y2, y3, y4, y5, y6]) rfl ⟨⟨5, false, 0, ⟨#[114, 101, 115, 111, 117, 114, 99, 101]⟩, ⟨#[]⟩, ⟨#[]⟩, none, 0, 0⟩, rfl, set7S_below bX (Nat.le_add_right _ 4) _ _ _ _ _ _ _, .mk 5 false 0 [114, 101, 115, 111, 117, 114, 99, 101] [] [] [], made_leaf 5 false 0 [114, 101, 115, 111, 117, 114, 99, 101] [] [] (by decide) (fun _ => .inr (.inr rfl)) (unhide HTt)⟩
 clear HP HR
 obtain ⟨dq, hdq⟩ : ∃ dq, dq = IntKind.i64.wrap (d.n.tdiv 3) := ⟨_, rfl⟩
 have hdq2 := hdq.symm
 obtain ⟨m, hm⟩ : ∃ m : Nat, (m : Int) = dq % 5 := ⟨(dq % 5).toNat, by omega⟩
 have hm5 : m < 5 := by omega
 have CW := fun w' => within11_any dq 5 (by decide) (by decide) w'
 rw [← hm] at CW
 obtain ⟨c, hc⟩ : ∃ c, c = UInt8.ofNat (97 + m) := ⟨_, rfl⟩
 have hcn : (c.toNat : Int) = 97 + (m : Int) := by
  rw [hc, UInt8.toNat_ofNat']
  omega
 have hcv2 : ∀ (W : World) (b : Nat), W.heap[b]? = some (Obj.cells #[.int .u8 (97 + (m : Int))] 5 (0, 0)) → (convert 102 9 (.slice (some ⟨b, 0, none⟩) 1 1)).run Try.prog W = .ok (.string ⟨#[c]⟩) W := fun W b hb => by
  refine run_convert_bytes_back _ 102 9 5 ⟨b, 0, none⟩ 1 [c] Try.underlying102 Try.underlying5 Try.underlying9 ?_
  intro j hj
  have hj0 : j = 0 := by simpa using hj
  subst hj0
  show _ = some (Value.int .u8 ((c.toNat : Nat) : Int))
  rw [hcn, show ((⟨b, 0, none⟩ : Addr).add 0) = ⟨b, 0, none⟩ from rfl, Lib.cell_of_heap hb]
  rfl
 have HM := hide (unhide HM c)
 clear hc hcn hm hdq
 have G : (tn = p ∧ ¬ m3 = 0 ∧ tn = r ∧ ¬ m3 = 1) ∨ (tn = p ∧ ¬ m3 = 0 ∧ tn ≠ r) ∨ (tn ≠ p ∧ tn = r ∧ ¬ m3 = 1) ∨ (tn ≠ p ∧ tn ≠ r) := by
  by_cases e1 : tn = p <;> by_cases e2 : tn = r
  ·exact .inl ⟨e1, fun h => h1 ⟨e1, h⟩, e2, fun h => h2 ⟨e2, h⟩⟩
  ·exact .inr (.inl ⟨e1, fun h => h1 ⟨e1, h⟩, e2⟩)
  ·exact .inr (.inr (.inl ⟨e1, e2, fun h => h2 ⟨e2, h⟩⟩))
  ·exact .inr (.inr (.inr ⟨e1, e2⟩))
 clear h1 h2
 rcases G with ⟨e1, e2, e3, e4⟩ | ⟨e1, e2, e3⟩ | ⟨e1, e2, e3⟩ | ⟨e1, e2⟩
 ·have g1 : (tn.toList == p.toList) = true := by rw [e1]; exact beq_self_eq_true _
  have g2 : (m3 == 0) = false := by simpa using e2
  have g3 : (tn.toList == r.toList) = true := by rw [e3]; exact beq_self_eq_true _
  have g4 : (m3 == 1) = false := by simpa using e4
  clear e1 e2 e3 e4
  have hdqk := hide hdq2
  have hcvk := hide hcv2
  have CWk := hide CW
  clear hdq2 hcv2 CW
  go_upto_region 14 with fail
  have hdq2 := unhide hdqk
  have hcv2 := unhide hcvk
  have CW := unhide CWk
  clear cs0 cs1 cn0 cn1 cn2 ct0 ct1 ct2 cr0 cr1 cr2 cr3
  refine wp_specs_put 12 (SpS [.eq (.pointer (some ⟨w.heap.size + 2, 2, none⟩)), .eq (.string tn), .eq (.pointer (some ⟨w.heap.size + 3, 1, none⟩)), .eq (.int .i64 d.n), .eq (.int .i64 dq), .eq (.int .i64 (m : Nat)), .eq (.int .i64 (97 + (m : Int))), .eq (.int .u8 (97 + (m : Int))), .blk (0) (fun b => .slice (some ⟨b, 0, none⟩) 1 1) (.cells #[.int .u8 (97 + (m : Int))] 5 (0, 0)), .eq (.string ⟨#[c]⟩), .eq (.agg #[.string tn, .string ⟨#[c]⟩]), .eq (.agg #[.int .i64 4, .bool false, .int .i64 0, .string ⟨#[]⟩, .string tn, .string ⟨#[c]⟩, .slice none 0 0])]) (fun w' => Below w1.heap.size w1 w') (by kernel_rfl) (by kernel_rfl) (Below.refl _ w1).drew ?_ ?_
  ·intro q o hq' ho a' w' hR hdep hslot K hK
   have m3 := kept_of_below hR k3
   have m4 := kept_of_below hR k4
   have ct2 : w'.cell? ⟨w.heap.size + 2, 2, none⟩ = some (.string tn) := lc_ m3 rfl
   have cr1 : w'.cell? ⟨w.heap.size + 3, 1, none⟩ = some (.int .i64 d.n) := lc_ m4 rfl
   have hdq := hdq2
   have m5 := hm5
   have ew : IntKind.i64.wrap (97 + (m : Int)) = 97 + (m : Int) := by rw [IntKind.wrap_i64]; omega
   have ew8 : IntKind.u8.wrap (97 + (m : Int)) = 97 + (m : Int) := by rw [IntKind.wrap_u8]; omega
   have hcv := hcv2
   clear m3 m4
   have hc : q = 0 ∨ q = 1 ∨ q = 2 ∨ q = 3 ∨ q = 4 ∨ q = 5 ∨ q = 6 ∨ q = 7 ∨ q = 8 ∨ q = 9 ∨ q = 10 ∨ q = 11 := by omega
   rcases hc with rfl | rfl | rfl | rfl | rfl | rfl | rfl | rfl | rfl | rfl | rfl | rfl
   ·cases ho
    have e0 : a'.tmps.getD 6 undef = .pointer (some ⟨w.heap.size + 2, 0, none⟩) := hslot 6 (by decide)
    clear ct2 cr1 hdq m5 hcv ew ew8
    unfold Oper.wp
    go_simp
    exact hK _ _ rfl hR (fun _ _ h => h)
   ·cases ho
    have e0 : a'.tmps.getD 68 undef = .pointer (some ⟨w.heap.size + 2, 2, none⟩) := hdep 0 (by kernel_rfl)
    have e0' := gd_ e0
    clear cr1 hdq m5 hcv ew ew8
    unfold Oper.wp
    go_simp
    exact hK _ _ rfl hR (fun _ _ h => h)
   ·cases ho
    have e0 : a'.tmps.getD 7 undef = .pointer (some ⟨w.heap.size + 3, 0, none⟩) := hslot 7 (by decide)
    clear ct2 cr1 hdq m5 hcv ew ew8
    unfold Oper.wp
    go_simp
    exact hK _ _ rfl hR (fun _ _ h => h)
   ·cases ho
    have e0 : a'.tmps.getD 70 undef = .pointer (some ⟨w.heap.size + 3, 1, none⟩) := hdep 2 (by kernel_rfl)
    have e0' := gd_ e0
    clear ct2 hdq m5 hcv ew ew8
    unfold Oper.wp
    go_simp
    exact hK _ _ rfl hR (fun _ _ h => h)
   ·cases ho
    have e0 : a'.tmps.getD 71 undef = .int .i64 d.n := hdep 3 (by kernel_rfl)
    have e0' := gd_ e0
    clear ct2 cr1 m5 hcv ew ew8
    unfold Oper.wp
    go_simp
    exact hK _ _ rfl hR (fun _ _ h => h)
   ·cases ho
    have e0 : a'.tmps.getD 72 undef = .int .i64 dq := hdep 4 (by kernel_rfl)
    have e0' := gd_ e0
    clear ct2 cr1 hdq m5 hcv ew ew8
    unfold Oper.wp
    go_simp
    refine (CW w').mono ?_
    rintro e w9 ⟨rfl, hw9⟩
    subst hw9
    exact hK _ _ rfl hR (fun _ _ h => h)
   ·cases ho
    have e0 : a'.tmps.getD 73 undef = .int .i64 (m : Nat) := hdep 5 (by kernel_rfl)
    have e0' := gd_ e0
    clear ct2 cr1 hdq hcv ew8
    unfold Oper.wp
    go_simp
    exact hK _ _ rfl hR (fun _ _ h => h)
   ·cases ho
    have e0 : a'.tmps.getD 74 undef = .int .i64 (97 + (m : Int)) := hdep 6 (by kernel_rfl)
    have e0' := gd_ e0
    clear ct2 cr1 hdq hcv ew
    unfold Oper.wp
    go_simp
    exact hK _ _ rfl hR (fun _ _ h => h)
   ·cases ho
    have e0 : a'.tmps.getD 75 undef = .int .u8 (97 + (m : Int)) := hdep 7 (by kernel_rfl)
    have e0' := gd_ e0
    clear ct2 cr1 hdq m5 hcv ew ew8
    unfold Oper.wp
    go_simp
    exact hK _ _ ⟨w'.heap.size, Nat.zero_le _, rfl, alloc_heap _ _⟩ (hR.alloc hR.size _) (SpS.up (blw1 _ _))
   ·cases ho
    obtain ⟨b0, hB0, e0, ho0⟩ : (.blk (0) (fun b => .slice (some ⟨b, 0, none⟩) 1 1) (.cells #[.int .u8 (97 + (m : Int))] 5 (0, 0)) : Sv).sp (a'.tmps.getD 76 undef) w' := hdep 8 (by kernel_rfl)
    have e0' := gd_ e0
    have Ho0 := hide ho0
    have hcv9 := hcv w' b0 (unhide Ho0)
    clear ho0 ct2 cr1 hdq m5 hcv ew ew8
    unfold Oper.wp
    go_simp
    exact hK _ _ rfl hR (fun _ _ h => h)
   ·cases ho
    have e0 : a'.tmps.getD 69 undef = .string tn := hdep 1 (by kernel_rfl)
    have e0' := gd_ e0
    have e1 : a'.tmps.getD 77 undef = .string ⟨#[c]⟩ := hdep 9 (by kernel_rfl)
    have e1' := gd_ e1
    clear ct2 cr1 hdq m5 hcv ew ew8
    unfold Oper.wp
    go_simp
    exact hK _ _ rfl hR (fun _ _ h => h)
   ·cases ho
    have e0 : a'.tmps.getD 78 undef = .agg #[.string tn, .string ⟨#[c]⟩] := hdep 10 (by kernel_rfl)
    have e0' := gd_ e0
    clear ct2 cr1 hdq m5 hcv ew ew8
    unfold Oper.wp
    go_simp
    exact hK _ _ rfl hR (fun _ _ h => h)
  ·intro v w' hR hall
   have f0 : v 0 = .pointer (some ⟨w.heap.size + 2, 2, none⟩) := hall 0 (by decide)
   have f1 : v 1 = .string tn := hall 1 (by decide)
   have f2 : v 2 = .pointer (some ⟨w.heap.size + 3, 1, none⟩) := hall 2 (by decide)
   have f3 : v 3 = .int .i64 d.n := hall 3 (by decide)
   have f4 : v 4 = .int .i64 dq := hall 4 (by decide)
   have f5 : v 5 = .int .i64 (m : Nat) := hall 5 (by decide)
   have f6 : v 6 = .int .i64 (97 + (m : Int)) := hall 6 (by decide)
   have f7 : v 7 = .int .u8 (97 + (m : Int)) := hall 7 (by decide)
   obtain ⟨b8, hB8, f8, ho8⟩ : (.blk (0) (fun b => .slice (some ⟨b, 0, none⟩) 1 1) (.cells #[.int .u8 (97 + (m : Int))] 5 (0, 0)) : Sv).sp (v 8) w' := hall 8 (by decide)
   have f9 : v 9 = .string ⟨#[c]⟩ := hall 9 (by decide)
   have f10 : v 10 = .agg #[.string tn, .string ⟨#[c]⟩] := hall 10 (by decide)
   have f11 : v 11 = .agg #[.int .i64 4, .bool false, .int .i64 0, .string ⟨#[]⟩, .string tn, .string ⟨#[c]⟩, .slice none 0 0] := hall 11 (by decide)
   clear hall
   simp only [putAll, dstOf, List.getElem?_cons_zero, List.getElem?_cons_succ, Option.bind_some, List.drop_succ_cons, List.drop_zero, f0, f1, f2, f3, f4, f5, f6, f7, f8, f9, f10, f11]
   clear f0 f1 f2 f3 f4 f5 f6 f7 f8 f9 f10 f11
   simp only [Act.put, List.setIfInBounds_toArray, List.set_cons_succ, List.set_cons_zero]
   have hV := kept_of_below hR k5
   have b0 := bX.trans (hR.mono bX.size)
   obtain ⟨y0, y1, y2, y3, y4, y5, y6, yf⟩ := blk7 hV
   clear hdq2 hm5 hcv2
   go_wp2
   exact bodyPost_ret (v := .agg #[.int .i64 4, .bool false, .int .i64 0, .string ⟨#[]⟩, .string tn, .string ⟨#[c]⟩, .slice none 0 0]) (by simp [results, Try.results44, go_sem, y0, y1, y2, y3, y4, y5, y6]) rfl ⟨⟨4, false, 0, ⟨#[]⟩, tn, ⟨#[c]⟩, none, 0, 0⟩, rfl, set7S_below b0 (Nat.le_add_right _ 4) _ _ _ _ _ _ _, .mk 4 false 0 [] tn.data.toList [c] [], by have := unhide HM; exact this _⟩
 ·have g1 : (tn.toList == p.toList) = true := by rw [e1]; exact beq_self_eq_true _
  have g2 : (m3 == 0) = false := by simpa using e2
  have g3 : (tn.toList == r.toList) = false := bytes_ne e3
  clear e1 e2 e3
  have hdqk := hide hdq2
  have hcvk := hide hcv2
  have CWk := hide CW
  clear hdq2 hcv2 CW
  go_upto_region 14 with fail
  have hdq2 := unhide hdqk
  have hcv2 := unhide hcvk
  have CW := unhide CWk
  clear cs0 cs1 cn0 cn1 cn2 ct0 ct1 ct2 cr0 cr1 cr2 cr3
  refine wp_specs_put 12 (SpS [.eq (.pointer (some ⟨w.heap.size + 2, 2, none⟩)), .eq (.string tn), .eq (.pointer (some ⟨w.heap.size + 3, 1, none⟩)), .eq (.int .i64 d.n), .eq (.int .i64 dq), .eq (.int .i64 (m : Nat)), .eq (.int .i64 (97 + (m : Int))), .eq (.int .u8 (97 + (m : Int))), .blk (0) (fun b => .slice (some ⟨b, 0, none⟩) 1 1) (.cells #[.int .u8 (97 + (m : Int))] 5 (0, 0)), .eq (.string ⟨#[c]⟩), .eq (.agg #[.string tn, .string ⟨#[c]⟩]), .eq (.agg #[.int .i64 4, .bool false, .int .i64 0, .string ⟨#[]⟩, .string tn, .string ⟨#[c]⟩, .slice none 0 0])]) (fun w' => Below w1.heap.size w1 w') (by kernel_rfl) (by kernel_rfl) (Below.refl _ w1).drew ?_ ?_
  ·intro q o hq' ho a' w' hR hdep hslot K hK
   have m3 := kept_of_below hR k3
   have m4 := kept_of_below hR k4
   have ct2 : w'.cell? ⟨w.heap.size + 2, 2, none⟩ = some (.string tn) := lc_ m3 rfl
   have cr1 : w'.cell? ⟨w.heap.size + 3, 1, none⟩ = some (.int .i64 d.n) := lc_ m4 rfl
   have hdq := hdq2
   have m5 := hm5
   have ew : IntKind.i64.wrap (97 + (m : Int)) = 97 + (m : Int) := by rw [IntKind.wrap_i64]; omega
   have ew8 : IntKind.u8.wrap (97 + (m : Int)) = 97 + (m : Int) := by rw [IntKind.wrap_u8]; omega
   have hcv := hcv2
   clear m3 m4
   have hc : q = 0 ∨ q = 1 ∨ q = 2 ∨ q = 3 ∨ q = 4 ∨ q = 5 ∨ q = 6 ∨ q = 7 ∨ q = 8 ∨ q = 9 ∨ q = 10 ∨ q = 11 := by omega
   rcases hc with rfl | rfl | rfl | rfl | rfl | rfl | rfl | rfl | rfl | rfl | rfl | rfl
   ·cases ho
    have e0 : a'.tmps.getD 6 undef = .pointer (some ⟨w.heap.size + 2, 0, none⟩) := hslot 6 (by decide)
    clear ct2 cr1 hdq m5 hcv ew ew8
    unfold Oper.wp
    go_simp
    exact hK _ _ rfl hR (fun _ _ h => h)
   ·cases ho
    have e0 : a'.tmps.getD 68 undef = .pointer (some ⟨w.heap.size + 2, 2, none⟩) := hdep 0 (by kernel_rfl)
    have e0' := gd_ e0
    clear cr1 hdq m5 hcv ew ew8
    unfold Oper.wp
    go_simp
    exact hK _ _ rfl hR (fun _ _ h => h)
   ·cases ho
    have e0 : a'.tmps.getD 7 undef = .pointer (some ⟨w.heap.size + 3, 0, none⟩) := hslot 7 (by decide)
    clear ct2 cr1 hdq m5 hcv ew ew8
    unfold Oper.wp
    go_simp
    exact hK _ _ rfl hR (fun _ _ h => h)
   ·cases ho
    have e0 : a'.tmps.getD 70 undef = .pointer (some ⟨w.heap.size + 3, 1, none⟩) := hdep 2 (by kernel_rfl)
    have e0' := gd_ e0
    clear ct2 hdq m5 hcv ew ew8
    unfold Oper.wp
    go_simp
    exact hK _ _ rfl hR (fun _ _ h => h)
   ·cases ho
    have e0 : a'.tmps.getD 71 undef = .int .i64 d.n := hdep 3 (by kernel_rfl)
    have e0' := gd_ e0
    clear ct2 cr1 m5 hcv ew ew8
    unfold Oper.wp
    go_simp
    exact hK _ _ rfl hR (fun _ _ h => h)
   ·cases ho
    have e0 : a'.tmps.getD 72 undef = .int .i64 dq := hdep 4 (by kernel_rfl)
    have e0' := gd_ e0
    clear ct2 cr1 hdq m5 hcv ew ew8
    unfold Oper.wp
    go_simp
    refine (CW w').mono ?_
    rintro e w9 ⟨rfl, hw9⟩
    subst hw9
    exact hK _ _ rfl hR (fun _ _ h => h)
   ·cases ho
    have e0 : a'.tmps.getD 73 undef = .int .i64 (m : Nat) := hdep 5 (by kernel_rfl)
    have e0' := gd_ e0
    clear ct2 cr1 hdq hcv ew8
    unfold Oper.wp
    go_simp
    exact hK _ _ rfl hR (fun _ _ h => h)
   ·cases ho
    have e0 : a'.tmps.getD 74 undef = .int .i64 (97 + (m : Int)) := hdep 6 (by kernel_rfl)
    have e0' := gd_ e0
    clear ct2 cr1 hdq hcv ew
    unfold Oper.wp
    go_simp
    exact hK _ _ rfl hR (fun _ _ h => h)
   ·cases ho
    have e0 : a'.tmps.getD 75 undef = .int .u8 (97 + (m : Int)) := hdep 7 (by kernel_rfl)
    have e0' := gd_ e0
    clear ct2 cr1 hdq m5 hcv ew ew8
    unfold Oper.wp
    go_simp
    exact hK _ _ ⟨w'.heap.size, Nat.zero_le _, rfl, alloc_heap _ _⟩ (hR.alloc hR.size _) (SpS.up (blw1 _ _))
   ·cases ho
    obtain ⟨b0, hB0, e0, ho0⟩ : (.blk (0) (fun b => .slice (some ⟨b, 0, none⟩) 1 1) (.cells #[.int .u8 (97 + (m : Int))] 5 (0, 0)) : Sv).sp (a'.tmps.getD 76 undef) w' := hdep 8 (by kernel_rfl)
    have e0' := gd_ e0
    have Ho0 := hide ho0
    have hcv9 := hcv w' b0 (unhide Ho0)
    clear ho0 ct2 cr1 hdq m5 hcv ew ew8
    unfold Oper.wp
    go_simp
    exact hK _ _ rfl hR (fun _ _ h => h)
   ·cases ho
    have e0 : a'.tmps.getD 69 undef = .string tn := hdep 1 (by kernel_rfl)
    have e0' := gd_ e0
    have e1 : a'.tmps.getD 77 undef = .string ⟨#[c]⟩ := hdep 9 (by kernel_rfl)
    have e1' := gd_ e1
    clear ct2 cr1 hdq m5 hcv ew ew8
    unfold Oper.wp
    go_simp
    exact hK _ _ rfl hR (fun _ _ h => h)
   ·cases ho
    have e0 : a'.tmps.getD 78 undef = .agg #[.string tn, .string ⟨#[c]⟩] := hdep 10 (by kernel_rfl)
    have e0' := gd_ e0
    clear ct2 cr1 hdq m5 hcv ew ew8
    unfold Oper.wp
    go_simp
    exact hK _ _ rfl hR (fun _ _ h => h)
  ·intro v w' hR hall
   have f0 : v 0 = .pointer (some ⟨w.heap.size + 2, 2, none⟩) := hall 0 (by decide)
   have f1 : v 1 = .string tn := hall 1 (by decide)
   have f2 : v 2 = .pointer (some ⟨w.heap.size + 3, 1, none⟩) := hall 2 (by decide)
   have f3 : v 3 = .int .i64 d.n := hall 3 (by decide)
   have f4 : v 4 = .int .i64 dq := hall 4 (by decide)
   have f5 : v 5 = .int .i64 (m : Nat) := hall 5 (by decide)
   have f6 : v 6 = .int .i64 (97 + (m : Int)) := hall 6 (by decide)
   have f7 : v 7 = .int .u8 (97 + (m : Int)) := hall 7 (by decide)
   obtain ⟨b8, hB8, f8, ho8⟩ : (.blk (0) (fun b => .slice (some ⟨b, 0, none⟩) 1 1) (.cells #[.int .u8 (97 + (m : Int))] 5 (0, 0)) : Sv).sp (v 8) w' := hall 8 (by decide)
   have f9 : v 9 = .string ⟨#[c]⟩ := hall 9 (by decide)
   have f10 : v 10 = .agg #[.string tn, .string ⟨#[c]⟩] := hall 10 (by decide)
   have f11 : v 11 = .agg #[.int .i64 4, .bool false, .int .i64 0, .string ⟨#[]⟩, .string tn, .string ⟨#[c]⟩, .slice none 0 0] := hall 11 (by decide)
   clear hall
   simp only [putAll, dstOf, List.getElem?_cons_zero, List.getElem?_cons_succ, Option.bind_some, List.drop_succ_cons, List.drop_zero, f0, f1, f2, f3, f4, f5, f6, f7, f8, f9, f10, f11]
   clear f0 f1 f2 f3 f4 f5 f6 f7 f8 f9 f10 f11
   simp only [Act.put, List.setIfInBounds_toArray, List.set_cons_succ, List.set_cons_zero]
   have hV := kept_of_below hR k5
   have b0 := bX.trans (hR.mono bX.size)
   obtain ⟨y0, y1, y2, y3, y4, y5, y6, yf⟩ := blk7 hV
   clear hdq2 hm5 hcv2
   go_wp2
   exact bodyPost_ret (v := .agg #[.int .i64 4, .bool false, .int .i64 0, .string ⟨#[]⟩, .string tn, .string ⟨#[c]⟩, .slice none 0 0]) (by simp [results, Try.results44, go_sem, y0, y1, y2, y3, y4, y5, y6]) rfl ⟨⟨4, false, 0, ⟨#[]⟩, tn, ⟨#[c]⟩, none, 0, 0⟩, rfl, set7S_below b0 (Nat.le_add_right _ 4) _ _ _ _ _ _ _, .mk 4 false 0 [] tn.data.toList [c] [], by have := unhide HM; exact this _⟩
 ·have g1 : (tn.toList == p.toList) = false := bytes_ne e1
  have g3 : (tn.toList == r.toList) = true := by rw [e2]; exact beq_self_eq_true _
  have g4 : (m3 == 1) = false := by simpa using e3
  clear e1 e2 e3
  have hdqk := hide hdq2
  have hcvk := hide hcv2
  have CWk := hide CW
  clear hdq2 hcv2 CW
  go_upto_region 14 with fail
  have hdq2 := unhide hdqk
  have hcv2 := unhide hcvk
  have CW := unhide CWk
  clear cs0 cs1 cn0 cn1 cn2 ct0 ct1 ct2 cr0 cr1 cr2 cr3
  refine wp_specs_put 12 (SpS [.eq (.pointer (some ⟨w.heap.size + 2, 2, none⟩)), .eq (.string tn), .eq (.pointer (some ⟨w.heap.size + 3, 1, none⟩)), .eq (.int .i64 d.n), .eq (.int .i64 dq), .eq (.int .i64 (m : Nat)), .eq (.int .i64 (97 + (m : Int))), .eq (.int .u8 (97 + (m : Int))), .blk (0) (fun b => .slice (some ⟨b, 0, none⟩) 1 1) (.cells #[.int .u8 (97 + (m : Int))] 5 (0, 0)), .eq (.string ⟨#[c]⟩), .eq (.agg #[.string tn, .string ⟨#[c]⟩]), .eq (.agg #[.int .i64 4, .bool false, .int .i64 0, .string ⟨#[]⟩, .string tn, .string ⟨#[c]⟩, .slice none 0 0])]) (fun w' => Below w1.heap.size w1 w') (by kernel_rfl) (by kernel_rfl) (Below.refl _ w1).drew ?_ ?_
  ·intro q o hq' ho a' w' hR hdep hslot K hK
   have m3 := kept_of_below hR k3
   have m4 := kept_of_below hR k4
   have ct2 : w'.cell? ⟨w.heap.size + 2, 2, none⟩ = some (.string tn) := lc_ m3 rfl
   have cr1 : w'.cell? ⟨w.heap.size + 3, 1, none⟩ = some (.int .i64 d.n) := lc_ m4 rfl
   have hdq := hdq2
   have m5 := hm5
   have ew : IntKind.i64.wrap (97 + (m : Int)) = 97 + (m : Int) := by rw [IntKind.wrap_i64]; omega
   have ew8 : IntKind.u8.wrap (97 + (m : Int)) = 97 + (m : Int) := by rw [IntKind.wrap_u8]; omega
   have hcv := hcv2
   clear m3 m4
   have hc : q = 0 ∨ q = 1 ∨ q = 2 ∨ q = 3 ∨ q = 4 ∨ q = 5 ∨ q = 6 ∨ q = 7 ∨ q = 8 ∨ q = 9 ∨ q = 10 ∨ q = 11 := by omega
   rcases hc with rfl | rfl | rfl | rfl | rfl | rfl | rfl | rfl | rfl | rfl | rfl | rfl
   ·cases ho
    have e0 : a'.tmps.getD 6 undef = .pointer (some ⟨w.heap.size + 2, 0, none⟩) := hslot 6 (by decide)
    clear ct2 cr1 hdq m5 hcv ew ew8
    unfold Oper.wp
    go_simp
    exact hK _ _ rfl hR (fun _ _ h => h)
   ·cases ho
    have e0 : a'.tmps.getD 68 undef = .pointer (some ⟨w.heap.size + 2, 2, none⟩) := hdep 0 (by kernel_rfl)
    have e0' := gd_ e0
    clear cr1 hdq m5 hcv ew ew8
    unfold Oper.wp
    go_simp
    exact hK _ _ rfl hR (fun _ _ h => h)
   ·cases ho
    have e0 : a'.tmps.getD 7 undef = .pointer (some ⟨w.heap.size + 3, 0, none⟩) := hslot 7 (by decide)
    clear ct2 cr1 hdq m5 hcv ew ew8
    unfold Oper.wp
    go_simp
    exact hK _ _ rfl hR (fun _ _ h => h)
   ·cases ho
    have e0 : a'.tmps.getD 70 undef = .pointer (some ⟨w.heap.size + 3, 1, none⟩) := hdep 2 (by kernel_rfl)
    have e0' := gd_ e0
    clear ct2 hdq m5 hcv ew ew8
    unfold Oper.wp
    go_simp
    exact hK _ _ rfl hR (fun _ _ h => h)
   ·cases ho
    have e0 : a'.tmps.getD 71 undef = .int .i64 d.n := hdep 3 (by kernel_rfl)
    have e0' := gd_ e0
    clear ct2 cr1 m5 hcv ew ew8
    unfold Oper.wp
    go_simp
    exact hK _ _ rfl hR (fun _ _ h => h)
   ·cases ho
    have e0 : a'.tmps.getD 72 undef = .int .i64 dq := hdep 4 (by kernel_rfl)
    have e0' := gd_ e0
    clear ct2 cr1 hdq m5 hcv ew ew8
    unfold Oper.wp
    go_simp
    refine (CW w').mono ?_
    rintro e w9 ⟨rfl, hw9⟩
    subst hw9
    exact hK _ _ rfl hR (fun _ _ h => h)
   ·cases ho
    have e0 : a'.tmps.getD 73 undef = .int .i64 (m : Nat) := hdep 5 (by kernel_rfl)
    have e0' := gd_ e0
    clear ct2 cr1 hdq hcv ew8
    unfold Oper.wp
    go_simp
    exact hK _ _ rfl hR (fun _ _ h => h)
   ·cases ho
    have e0 : a'.tmps.getD 74 undef = .int .i64 (97 + (m : Int)) := hdep 6 (by kernel_rfl)
    have e0' := gd_ e0
    clear ct2 cr1 hdq hcv ew
    unfold Oper.wp
    go_simp
    exact hK _ _ rfl hR (fun _ _ h => h)
   ·cases ho
    have e0 : a'.tmps.getD 75 undef = .int .u8 (97 + (m : Int)) := hdep 7 (by kernel_rfl)
    have e0' := gd_ e0
    clear ct2 cr1 hdq m5 hcv ew ew8
    unfold Oper.wp
    go_simp
    exact hK _ _ ⟨w'.heap.size, Nat.zero_le _, rfl, alloc_heap _ _⟩ (hR.alloc hR.size _) (SpS.up (blw1 _ _))
   ·cases ho
    obtain ⟨b0, hB0, e0, ho0⟩ : (.blk (0) (fun b => .slice (some ⟨b, 0, none⟩) 1 1) (.cells #[.int .u8 (97 + (m : Int))] 5 (0, 0)) : Sv).sp (a'.tmps.getD 76 undef) w' := hdep 8 (by kernel_rfl)
    have e0' := gd_ e0
    have Ho0 := hide ho0
    have hcv9 := hcv w' b0 (unhide Ho0)
    clear ho0 ct2 cr1 hdq m5 hcv ew ew8
    unfold Oper.wp
    go_simp
    exact hK _ _ rfl hR (fun _ _ h => h)
   ·cases ho
    have e0 : a'.tmps.getD 69 undef = .string tn := hdep 1 (by kernel_rfl)
    have e0' := gd_ e0
    have e1 : a'.tmps.getD 77 undef = .string ⟨#[c]⟩ := hdep 9 (by kernel_rfl)
    have e1' := gd_ e1
    clear ct2 cr1 hdq m5 hcv ew ew8
    unfold Oper.wp
    go_simp
    exact hK _ _ rfl hR (fun _ _ h => h)
   ·cases ho
    have e0 : a'.tmps.getD 78 undef = .agg #[.string tn, .string ⟨#[c]⟩] := hdep 10 (by kernel_rfl)
    have e0' := gd_ e0
    clear ct2 cr1 hdq m5 hcv ew ew8
    unfold Oper.wp
    go_simp
    exact hK _ _ rfl hR (fun _ _ h => h)
  ·intro v w' hR hall
   have f0 : v 0 = .pointer (some ⟨w.heap.size + 2, 2, none⟩) := hall 0 (by decide)
   have f1 : v 1 = .string tn := hall 1 (by decide)
   have f2 : v 2 = .pointer (some ⟨w.heap.size + 3, 1, none⟩) := hall 2 (by decide)
   have f3 : v 3 = .int .i64 d.n := hall 3 (by decide)
   have f4 : v 4 = .int .i64 dq := hall 4 (by decide)
   have f5 : v 5 = .int .i64 (m : Nat) := hall 5 (by decide)
   have f6 : v 6 = .int .i64 (97 + (m : Int)) := hall 6 (by decide)
   have f7 : v 7 = .int .u8 (97 + (m : Int)) := hall 7 (by decide)
   obtain ⟨b8, hB8, f8, ho8⟩ : (.blk (0) (fun b => .slice (some ⟨b, 0, none⟩) 1 1) (.cells #[.int .u8 (97 + (m : Int))] 5 (0, 0)) : Sv).sp (v 8) w' := hall 8 (by decide)
   have f9 : v 9 = .string ⟨#[c]⟩ := hall 9 (by decide)
   have f10 : v 10 = .agg #[.string tn, .string ⟨#[c]⟩] := hall 10 (by decide)
   have f11 : v 11 = .agg #[.int .i64 4, .bool false, .int .i64 0, .string ⟨#[]⟩, .string tn, .string ⟨#[c]⟩, .slice none 0 0] := hall 11 (by decide)
   clear hall
   simp only [putAll, dstOf, List.getElem?_cons_zero, List.getElem?_cons_succ, Option.bind_some, List.drop_succ_cons, List.drop_zero, f0, f1, f2, f3, f4, f5, f6, f7, f8, f9, f10, f11]
   clear f0 f1 f2 f3 f4 f5 f6 f7 f8 f9 f10 f11
   simp only [Act.put, List.setIfInBounds_toArray, List.set_cons_succ, List.set_cons_zero]
   have hV := kept_of_below hR k5
   have b0 := bX.trans (hR.mono bX.size)
   obtain ⟨y0, y1, y2, y3, y4, y5, y6, yf⟩ := blk7 hV
   clear hdq2 hm5 hcv2
   go_wp2
   exact bodyPost_ret (v := .agg #[.int .i64 4, .bool false, .int .i64 0, .string ⟨#[]⟩, .string tn, .string ⟨#[c]⟩, .slice none 0 0]) (by simp [results, Try.results44, go_sem, y0, y1, y2, y3, y4, y5, y6]) rfl ⟨⟨4, false, 0, ⟨#[]⟩, tn, ⟨#[c]⟩, none, 0, 0⟩, rfl, set7S_below b0 (Nat.le_add_right _ 4) _ _ _ _ _ _ _, .mk 4 false 0 [] tn.data.toList [c] [], by have := unhide HM; exact this _⟩
 ·have g1 : (tn.toList == p.toList) = false := bytes_ne e1
  have g3 : (tn.toList == r.toList) = false := bytes_ne e2
  clear e1 e2
  have hdqk := hide hdq2
  have hcvk := hide hcv2
  have CWk := hide CW
  clear hdq2 hcv2 CW
  go_upto_region 14 with fail
  have hdq2 := unhide hdqk
  have hcv2 := unhide hcvk
  have CW := unhide CWk
  clear cs0 cs1 cn0 cn1 cn2 ct0 ct1 ct2 cr0 cr1 cr2 cr3
  refine wp_specs_put 12 (SpS [.eq (.pointer (some ⟨w.heap.size + 2, 2, none⟩)), .eq (.string tn), .eq (.pointer (some ⟨w.heap.size + 3, 1, none⟩)), .eq (.int .i64 d.n), .eq (.int .i64 dq), .eq (.int .i64 (m : Nat)), .eq (.int .i64 (97 + (m : Int))), .eq (.int .u8 (97 + (m : Int))), .blk (0) (fun b => .slice (some ⟨b, 0, none⟩) 1 1) (.cells #[.int .u8 (97 + (m : Int))] 5 (0, 0)), .eq (.string ⟨#[c]⟩), .eq (.agg #[.string tn, .string ⟨#[c]⟩]), .eq (.agg #[.int .i64 4, .bool false, .int .i64 0, .string ⟨#[]⟩, .string tn, .string ⟨#[c]⟩, .slice none 0 0])]) (fun w' => Below w1.heap.size w1 w') (by kernel_rfl) (by kernel_rfl) (Below.refl _ w1).drew ?_ ?_
  ·intro q o hq' ho a' w' hR hdep hslot K hK
   have m3 := kept_of_below hR k3
   have m4 := kept_of_below hR k4
   have ct2 : w'.cell? ⟨w.heap.size + 2, 2, none⟩ = some (.string tn) := lc_ m3 rfl
   have cr1 : w'.cell? ⟨w.heap.size + 3, 1, none⟩ = some (.int .i64 d.n) := lc_ m4 rfl
   have hdq := hdq2
   have m5 := hm5
   have ew : IntKind.i64.wrap (97 + (m : Int)) = 97 + (m : Int) := by rw [IntKind.wrap_i64]; omega
   have ew8 : IntKind.u8.wrap (97 + (m : Int)) = 97 + (m : Int) := by rw [IntKind.wrap_u8]; omega
   have hcv := hcv2
   clear m3 m4
   have hc : q = 0 ∨ q = 1 ∨ q = 2 ∨ q = 3 ∨ q = 4 ∨ q = 5 ∨ q = 6 ∨ q = 7 ∨ q = 8 ∨ q = 9 ∨ q = 10 ∨ q = 11 := by omega
   rcases hc with rfl | rfl | rfl | rfl | rfl | rfl | rfl | rfl | rfl | rfl | rfl | rfl
   ·cases ho
    have e0 : a'.tmps.getD 6 undef = .pointer (some ⟨w.heap.size + 2, 0, none⟩) := hslot 6 (by decide)
    clear ct2 cr1 hdq m5 hcv ew ew8
    unfold Oper.wp
    go_simp
    exact hK _ _ rfl hR (fun _ _ h => h)
   ·cases ho
    have e0 : a'.tmps.getD 68 undef = .pointer (some ⟨w.heap.size + 2, 2, none⟩) := hdep 0 (by kernel_rfl)
    have e0' := gd_ e0
    clear cr1 hdq m5 hcv ew ew8
    unfold Oper.wp
    go_simp
    exact hK _ _ rfl hR (fun _ _ h => h)
   ·cases ho
    have e0 : a'.tmps.getD 7 undef = .pointer (some ⟨w.heap.size + 3, 0, none⟩) := hslot 7 (by decide)
    clear ct2 cr1 hdq m5 hcv ew ew8
    unfold Oper.wp
    go_simp
    exact hK _ _ rfl hR (fun _ _ h => h)
   ·cases ho
    have e0 : a'.tmps.getD 70 undef = .pointer (some ⟨w.heap.size + 3, 1, none⟩) := hdep 2 (by kernel_rfl)
    have e0' := gd_ e0
    clear ct2 hdq m5 hcv ew ew8
    unfold Oper.wp
    go_simp
    exact hK _ _ rfl hR (fun _ _ h => h)
   ·cases ho
    have e0 : a'.tmps.getD 71 undef = .int .i64 d.n := hdep 3 (by kernel_rfl)
    have e0' := gd_ e0
    clear ct2 cr1 m5 hcv ew ew8
    unfold Oper.wp
    go_simp
    exact hK _ _ rfl hR (fun _ _ h => h)
   ·cases ho
    have e0 : a'.tmps.getD 72 undef = .int .i64 dq := hdep 4 (by kernel_rfl)
    have e0' := gd_ e0
    clear ct2 cr1 hdq m5 hcv ew ew8
    unfold Oper.wp
    go_simp
    refine (CW w').mono ?_
    rintro e w9 ⟨rfl, hw9⟩
    subst hw9
    exact hK _ _ rfl hR (fun _ _ h => h)
   ·cases ho
    have e0 : a'.tmps.getD 73 undef = .int .i64 (m : Nat) := hdep 5 (by kernel_rfl)
    have e0' := gd_ e0
    clear ct2 cr1 hdq hcv ew8
    unfold Oper.wp
    go_simp
    exact hK _ _ rfl hR (fun _ _ h => h)
   ·cases ho
    have e0 : a'.tmps.getD 74 undef = .int .i64 (97 + (m : Int)) := hdep 6 (by kernel_rfl)
    have e0' := gd_ e0
    clear ct2 cr1 hdq hcv ew
    unfold Oper.wp
    go_simp
    exact hK _ _ rfl hR (fun _ _ h => h)
   ·cases ho
    have e0 : a'.tmps.getD 75 undef = .int .u8 (97 + (m : Int)) := hdep 7 (by kernel_rfl)
    have e0' := gd_ e0
    clear ct2 cr1 hdq m5 hcv ew ew8
    unfold Oper.wp
    go_simp
    exact hK _ _ ⟨w'.heap.size, Nat.zero_le _, rfl, alloc_heap _ _⟩ (hR.alloc hR.size _) (SpS.up (blw1 _ _))
   ·cases ho
    obtain ⟨b0, hB0, e0, ho0⟩ : (.blk (0) (fun b => .slice (some ⟨b, 0, none⟩) 1 1) (.cells #[.int .u8 (97 + (m : Int))] 5 (0, 0)) : Sv).sp (a'.tmps.getD 76 undef) w' := hdep 8 (by kernel_rfl)
    have e0' := gd_ e0
    have Ho0 := hide ho0
    have hcv9 := hcv w' b0 (unhide Ho0)
    clear ho0 ct2 cr1 hdq m5 hcv ew ew8
    unfold Oper.wp
    go_simp
    exact hK _ _ rfl hR (fun _ _ h => h)
   ·cases ho
    have e0 : a'.tmps.getD 69 undef = .string tn := hdep 1 (by kernel_rfl)
    have e0' := gd_ e0
    have e1 : a'.tmps.getD 77 undef = .string ⟨#[c]⟩ := hdep 9 (by kernel_rfl)
    have e1' := gd_ e1
    clear ct2 cr1 hdq m5 hcv ew ew8
    unfold Oper.wp
    go_simp
    exact hK _ _ rfl hR (fun _ _ h => h)
   ·cases ho
    have e0 : a'.tmps.getD 78 undef = .agg #[.string tn, .string ⟨#[c]⟩] := hdep 10 (by kernel_rfl)
    have e0' := gd_ e0
    clear ct2 cr1 hdq m5 hcv ew ew8
    unfold Oper.wp
    go_simp
    exact hK _ _ rfl hR (fun _ _ h => h)
  ·intro v w' hR hall
   have f0 : v 0 = .pointer (some ⟨w.heap.size + 2, 2, none⟩) := hall 0 (by decide)
   have f1 : v 1 = .string tn := hall 1 (by decide)
   have f2 : v 2 = .pointer (some ⟨w.heap.size + 3, 1, none⟩) := hall 2 (by decide)
   have f3 : v 3 = .int .i64 d.n := hall 3 (by decide)
   have f4 : v 4 = .int .i64 dq := hall 4 (by decide)
   have f5 : v 5 = .int .i64 (m : Nat) := hall 5 (by decide)
   have f6 : v 6 = .int .i64 (97 + (m : Int)) := hall 6 (by decide)
   have f7 : v 7 = .int .u8 (97 + (m : Int)) := hall 7 (by decide)
   obtain ⟨b8, hB8, f8, ho8⟩ : (.blk (0) (fun b => .slice (some ⟨b, 0, none⟩) 1 1) (.cells #[.int .u8 (97 + (m : Int))] 5 (0, 0)) : Sv).sp (v 8) w' := hall 8 (by decide)
   have f9 : v 9 = .string ⟨#[c]⟩ := hall 9 (by decide)
   have f10 : v 10 = .agg #[.string tn, .string ⟨#[c]⟩] := hall 10 (by decide)
   have f11 : v 11 = .agg #[.int .i64 4, .bool false, .int .i64 0, .string ⟨#[]⟩, .string tn, .string ⟨#[c]⟩, .slice none 0 0] := hall 11 (by decide)
   clear hall
   simp only [putAll, dstOf, List.getElem?_cons_zero, List.getElem?_cons_succ, Option.bind_some, List.drop_succ_cons, List.drop_zero, f0, f1, f2, f3, f4, f5, f6, f7, f8, f9, f10, f11]
   clear f0 f1 f2 f3 f4 f5 f6 f7 f8 f9 f10 f11
   simp only [Act.put, List.setIfInBounds_toArray, List.set_cons_succ, List.set_cons_zero]
   have hV := kept_of_below hR k5
   have b0 := bX.trans (hR.mono bX.size)
   obtain ⟨y0, y1, y2, y3, y4, y5, y6, yf⟩ := blk7 hV
   clear hdq2 hm5 hcv2
   go_wp2
   exact bodyPost_ret (v := .agg #[.int .i64 4, .bool false, .int .i64 0, .string ⟨#[]⟩, .string tn, .string ⟨#[c]⟩, .slice none 0 0]) (by simp [results, Try.results44, go_sem, y0, y1, y2, y3, y4, y5, y6]) rfl ⟨⟨4, false, 0, ⟨#[]⟩, tn, ⟨#[c]⟩, none, 0, 0⟩, rfl, set7S_below b0 (Nat.le_add_right _ 4) _ _ _ _ _ _ _, .mk 4 false 0 [] tn.data.toList [c] [], by have := unhide HM; exact this _⟩
theorem plain11_flat (s : SP) (ko ao : Option Addr) (kc acp : Nat) (p ac r : ByteArray) (d : R4) (x : Rw) (t : T3) (w : World) (ht : GTy s t) (h5 : t.k ≠ 5) (hx : IsR w d x) : Calls Try.prog 44 #[.agg #[.slice ko s.ks.length kc, .slice ao s.ac.length acp], .agg #[.string p, .string ac, .string r], .agg #[.int .i64 t.k, .int .i64 t.o, .string t.n], .agg #[.int .i64 d.op, .int .i64 d.n, .slice d.so d.sl d.sc, .slice d.lo d.ll d.lc]] w fun e w' => MakesT s p r t 1 w e w' := by
 obtain ⟨tk, to_, tn⟩ := t
 rcases ht with ⟨h1 | h1 | h1, h2, h3⟩ | ⟨h1, h2, h3⟩ | ⟨h1, _⟩
 ·simp only at h1 h2 h3
  subst h1 h2 h3
  exact plain11_1 s ko ao kc acp p ac r d w
 ·simp only at h1 h2 h3
  subst h1 h2 h3
  exact plain11_2 s ko ao kc acp p ac r d w
 ·simp only at h1 h2 h3
  subst h1 h2 h3
  exact plain11_3 s ko ao kc acp p ac r d x w hx
 ·simp only at h1 h2
  subst h1 h2
  exact plain11_4 s ko ao kc acp p ac r d tn w h3
 ·exact absurd h1 h5
theorem elem_gt {s : SP} {t : T3} (ht : GTy s t) (h5 : t.k = 5) : GTy s ⟨t.o, 0, t.n⟩ ∧ (t.o : Int) ≠ 5 ∧ t = ⟨5, t.o, t.n⟩ := by
 obtain ⟨tk, to_, tn⟩ := t
 simp only at h5
 subst h5
 rcases ht with ⟨h1 | h1 | h1, _⟩ | ⟨h1, _⟩ | ⟨_, ⟨h1, h2⟩ | ⟨h1, h2⟩⟩
 ·simp only at h1; omega
 ·simp only at h1; omega
 ·simp only at h1; omega
 ·simp only at h1; omega
 ·exact ⟨.inl ⟨h1, rfl, h2⟩, by simp only at h1 ⊢; omega, rfl⟩
 ·exact ⟨.inr (.inl ⟨h1, rfl, h2⟩), by simp only at h1 ⊢; omega, rfl⟩
theorem set_typ {s : SP} {p r : ByteArray} {o : Int} {n sx : ByteArray} (h5 : o ≠ 5) (k : Nat) : nodeT s p r 6 sx (ba []) (ba []) (List.replicate (k + 1) ⟨o, 0, n⟩) = (⟨5, o, n⟩, 0) := by
 show setT (List.replicate (k + 1) ⟨o, 0, n⟩) = _
 rw [List.replicate_succ]
 refine setT_all h5 fun j hj => ?_
 cases j with
 | zero => rfl
 | succ j => simp
set_option maxHeartbeats 8000000 in
set_option maxRecDepth 1000000 in
theorem plain11_any (s : SP) (ko ao : Option Addr) (kc acp : Nat) (p ac r : ByteArray) (d : R4) (x : Rw) (t : T3) (w : World) (ht : GTy s t) (hx : IsR w d x) : Calls Try.prog 44 #[.agg #[.slice ko s.ks.length kc, .slice ao s.ac.length acp], .agg #[.string p, .string ac, .string r], .agg #[.int .i64 t.k, .int .i64 t.o, .string t.n], .agg #[.int .i64 d.op, .int .i64 d.n, .slice d.so d.sl d.sc, .slice d.lo d.ll d.lc]] w fun e w' => MakesT s p r t 2 w e w' := by
 by_cases h5 : t.k = 5
 ·obtain ⟨he, ho, ht'⟩ := elem_gt ht h5
  have CP := fun w' (hb : Below w.heap.size w w') => plain11_flat s ko ao kc acp p ac r d x ⟨t.o, 0, t.n⟩ w' he ho (IsR.below hb d x hx)
  have HT := hide (set_typ (s := s) (p := p) (r := r) (n := t.n) (sx := ba []) ho 0)
  obtain ⟨tk, to_, tn⟩ := t
  simp only at h5 CP HT
  subst h5
  simp only
  clear he ho ht' ht hx
  obtain ⟨bX, zX, k1, k2, k3, k4, k5⟩ := alloc5 w (.cells #[.slice ko s.ks.length kc, .slice ao s.ac.length acp] 33) (.cells #[.string p, .string ac, .string r] 42) (.cells #[.int .i64 5, .int .i64 to_, .string tn] 54) (.cells #[.int .i64 d.op, .int .i64 d.n, .slice d.so d.sl d.sc, .slice d.lo d.ll d.lc] 49) (.cells #[.int .i64 0, .bool false, .int .i64 0, .string ⟨#[]⟩, .string ⟨#[]⟩, .string ⟨#[]⟩, .slice none 0 0] 39)
  go_enter Try.func44, Try.ntmps44
  go_upto_region 1 with fail
  generalize ((((w.alloc _).alloc _).alloc _).alloc _).alloc _ = w1 at *
  clear zX
  obtain ⟨cs0, cs1⟩ := bl2_ k1
  obtain ⟨cn0, cn1, cn2⟩ := bl3_ k2
  obtain ⟨ct0, ct1, ct2⟩ := bl3_ k3
  obtain ⟨cr0, cr1, cr2, cr3⟩ := bl4_ k4
  have CP := CP w1 bX
  have hVlt : w.heap.size + 4 < w1.heap.size := (Array.getElem?_eq_some_iff.1 k5).1
  have hw1 := bX.size
  go_wp2_with fail
  refine CP.mono ?_
  clear CP cs0 cs1 cn0 cn1 cn2 ct0 ct1 ct2 cr0 cr1 cr2 cr3
  rintro e9 w5 ⟨q, rfl, b5, y, hy⟩
  have b6 := blw1 w5 (.cells #[.int .i64 q.k, .bool q.b, .int .i64 q.n, .string q.s, .string q.t, .string q.i, .slice q.lo q.ll q.lc] 39)
  have h6 := alloc_heap w5 (.cells #[.int .i64 q.k, .bool q.b, .int .i64 q.n, .string q.s, .string q.t, .string q.i, .slice q.lo q.ll q.lc] 39)
  have hM := made_node (k := 6) (sx := []) (cap := 1) (t := ⟨5, to_, tn⟩) (ll := 1) h6 (qs := [q]) (es := [y]) rfl b5.size (.cons (hy.up b6) .nil) rfl (by decide) (fun h => absurd rfl h) (by simp) (unhide HT)
  have B6 := b5.trans (b6.mono b5.size)
  have b06 := bX.trans (B6.mono bX.size)
  have hV6 := kept_of_below B6 k5
  have HM := hide hM
  clear hM h6
  obtain ⟨y0, y1, y2, y3, y4, y5, y6, yf⟩ := blk7 hV6
  have HB := hide (And.intro b06 hVlt)
  clear b06 hV6 b6 B6
  go_wp2
  exact bodyPost_ret (v := .agg #[.int .i64 6, .bool false, .int .i64 0, .string ⟨#[]⟩, .string ⟨#[]⟩, .string ⟨#[]⟩, .slice (some ⟨w5.heap.size, 0, none⟩) 1 1]) (by simp [results, Try.results44, go_sem, y0, y1, y2, y3, y4, y5, y6]) rfl ⟨⟨6, false, 0, ⟨#[]⟩, ⟨#[]⟩, ⟨#[]⟩, some ⟨w5.heap.size, 0, none⟩, 1, 1⟩, rfl, set7S_below (unhide HB).1 (Nat.le_add_right _ 4) _ _ _ _ _ _ _, _, ((unhide HM).keep (w' := set7S _ _ _ _ _ _ _ _ _) (by rw [set7S_size]; exact Nat.le_refl _) (fun b hB _ => set7S_heap _ _ _ _ _ _ _ _ _ _ (by have := (unhide HB).2; omega))).weak hw1 (Nat.le_refl _)⟩
 ·refine (plain11_flat s ko ao kc acp p ac r d x t w ht h5 hx).mono ?_
  rintro e w' ⟨q, he, hb, y, hy⟩
  exact ⟨q, he, hb, y, hy.weak (Nat.le_refl _) (by decide)⟩
end Go.Proofs.Ytagnbpobcijakaa
