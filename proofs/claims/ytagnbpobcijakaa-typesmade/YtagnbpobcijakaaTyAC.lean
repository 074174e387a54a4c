/-
 Two uids held against one another.
 Types as plain data; of which type a tree is (no program in it).
 Package types: what its small functions return.
 Package types: ofVar, isNamed, ofField, ofThree, ofOne: what they return.
-/
import Derived.Test.YtagnbpobcijakaaEnA
import Derived.Test.YtagnbpobcijakaaValW
import Derived.Test.YtagnbpobcijakaaSjDK
import Derived.Test.YtagnbpobcijakaaRNum
namespace Go.Proofs.Ytagnbpobcijakaa
open Go.RowKit Go.Sort

theorem toList_ba (a b : ByteArray) : a.toList = b.toList ↔ a = b := by
 constructor
 ·intro h
  rw [ByteArray.toList_eq, ByteArray.toList_eq] at h
  exact ByteArray.ext (Array.toList_inj.1 h)
 ·intro h
  rw [h]
end Go.Proofs.Ytagnbpobcijakaa

namespace Go.Proofs.Ytagnbpobcijakaa
open Go.RowKit Go.Sort

/-- A type's three. -/
structure T3 where
 k : Int
 o : Int
 n : ByteArray
deriving DecidableEq
def T3.cells (t : T3) : List Value := [.int .i64 t.k, .int .i64 t.o, .string t.n]
def T3.val (t : T3) : Value := .agg #[.int .i64 t.k, .int .i64 t.o, .string t.n]
def zT : T3 := ⟨0, 0, ⟨#[]⟩⟩
/-- A type and an error, as they are returned. -/
abbrev TR := T3 × Int
def TR.ret (x : TR) : Value := .tuple #[.agg #[.int .i64 x.1.k, .int .i64 x.1.o, .string x.1.n], .int .i64 x.2]
def sPrin : ByteArray := ba cPrincipal
def sActn : ByteArray := ba cAction
def sRes : ByteArray := ba cResource

def whereT (f : Bool) (k : Int) : TR := if f then (⟨k, 0, ⟨#[]⟩⟩, 0) else (zT, 16)
def entT (n : ByteArray) (is : Bool) : TR := if is then (⟨4, 0, n⟩, 0) else (zT, 15)
def namedB (s : SP) (t i : ByteArray) : Bool := if t = sAction then !noneB s.acts i else !noneB s.names t
def varT (p r n : ByteArray) : TR := if n = sPrin then (⟨4, 0, p⟩, 0) else if n = sActn then (⟨4, 0, sAction⟩, 0) else if n = sRes then (⟨4, 0, r⟩, 0) else (zT, 15)
def leafT (s : SP) (p r : ByteArray) (k : Int) (sx t i : ByteArray) : TR :=
 if k = 1 then (⟨1, 0, ⟨#[]⟩⟩, 0) else if k = 2 then (⟨2, 0, ⟨#[]⟩⟩, 0) else if k = 3 then (⟨3, 0, ⟨#[]⟩⟩, 0) else if k = 4 then entT t (namedB s t i) else if k = 5 then varT p r sx else (zT, 13)
def setT : List T3 → TR
 | [] => (zT, 16)
 | a :: t => if a.k = 5 then (zT, 16) else if (a :: t).all (fun x => decide (x = a)) then (⟨5, a.k, a.n⟩, 0) else (zT, 16)
/-- The type of the first field of a name, and whether there is one. -/
def fldT : List F4 → ByteArray → T3 × Bool
 | [], _ => (zT, false)
 | f :: t, n => if f.nm = n then (⟨f.k, f.o, f.tn⟩, true) else fldT t n
theorem fldV_T (l : List F4) (n : ByteArray) : fldV l n = .tuple #[.agg #[.int .i64 (fldT l n).1.k, .int .i64 (fldT l n).1.o, .string (fldT l n).1.n], .bool (fldT l n).2] := by
 induction l with
 | nil => rfl
 | cons f t ih =>
  unfold fldV fldT
  by_cases h : f.nm = n
  ·rw [if_pos h, if_pos h]
  ·rw [if_neg h, if_neg h]
   exact ih
def fieldT (s : SP) (kn n : ByteArray) : TR := if noneB s.names kn then (zT, 15) else if (fldT (kOf s kn).fs n).2 then ((fldT (kOf s kn).fs n).1, 0) else (zT, 15)
def oneT (s : SP) (k : Int) (sx : ByteArray) (a : T3) : TR :=
 if k = 7 then (if a.k = 4 then fieldT s a.n sx else (zT, 16)) else if k = 8 then whereT (decide (a.k = 4)) 1 else if k = 10 then whereT (decide (a.k = 3)) 1 else if k = 11 then whereT (decide (a.k = 1)) 1 else if k = 12 then whereT (decide (a.k = 2)) 2 else (zT, 13)
def twoT (k : Int) (a b : T3) : TR :=
 if k = 13 ∨ k = 14 ∨ k = 15 then whereT (decide (a.k = 2) && decide (b.k = 2)) 2
 else if k = 16 ∨ k = 17 ∨ k = 18 ∨ k = 19 then whereT (decide (a.k = 2) && decide (b.k = 2)) 1
 else if k = 20 ∨ k = 21 then whereT (decide (a = b) || (decide (a.k = 4) && decide (b.k = 4))) 1
 else if k = 22 then whereT (decide (a.k = 4) && (decide (b.k = 4) || (decide (b.k = 5) && decide (b.o = 4)))) 1
 else if k = 9 then whereT (decide (a.k = 5) && decide (b = ⟨a.o, 0, a.n⟩)) 1
 else if k = 23 ∨ k = 24 then whereT (decide (a.k = 1) && decide (b.k = 1)) 1
 else (zT, 13)
def threeT (k : Int) (c a b : T3) : TR := if k = 25 then (if c.k = 1 ∧ a = b then (a, 0) else (zT, 16)) else (zT, 13)
def nodeT (s : SP) (p r : ByteArray) (k : Int) (sx t i : ByteArray) (l : List T3) : TR :=
 if k = 6 then setT l else match l with
 | [] => leafT s p r k sx t i
 | [a] => oneT s k sx a
 | [a, b] => twoT k a b
 | [a, b, c] => threeT k a b c
 | _ => (zT, 13)

mutual
/-- The type of a tree, or its error. -/
def typE (s : SP) (p r : ByteArray) : Ex → TR
 | .mk k _ _ sx t i l => match typL s p r [] l with
  | .inl ts => nodeT s p r k (ba sx) (ba t) (ba i) ts
  | .inr e => (zT, e)
/-- The types of some trees, behind those that are there; or the first error. -/
def typL (s : SP) (p r : ByteArray) : List T3 → List Ex → List T3 ⊕ Int
 | acc, [] => .inl acc
 | acc, e :: l => if (typE s p r e).2 = 0 then typL s p r (acc ++ [(typE s p r e).1]) l else .inr (typE s p r e).2
end
theorem typL_next (s : SP) (p r : ByteArray) (acc : List T3) (l : List Ex) (i : Nat) (h : i < l.length) (h0 : (typE s p r l[i]).2 = 0) : typL s p r acc (l.drop i) = typL s p r (acc ++ [(typE s p r l[i]).1]) (l.drop (i + 1)) := by
 rw [List.drop_eq_getElem_cons h, typL, if_pos h0]
theorem typL_err (s : SP) (p r : ByteArray) (acc : List T3) (l : List Ex) (i : Nat) (h : i < l.length) (h0 : (typE s p r l[i]).2 ≠ 0) : typL s p r acc (l.drop i) = .inr (typE s p r l[i]).2 := by
 rw [List.drop_eq_getElem_cons h, typL, if_neg h0]
/-- An element's three cells. -/
structure AtT3 (w : World) (b o : Nat) (t : T3) : Prop where
 c0 : w.cell? ⟨b, o, none⟩ = some (.int .i64 t.k)
 c1 : w.cell? ⟨b, o + 1, none⟩ = some (.int .i64 t.o)
 c2 : w.cell? ⟨b, o + 2, none⟩ = some (.string t.n)
theorem AtT3.of {w : World} {b o : Nat} {t : T3} (h : ∀ c v, t.cells[c]? = some v → w.cell? ⟨b, o + c, none⟩ = some v) : AtT3 w b o t := ⟨h 0 _ rfl, h 1 _ rfl, h 2 _ rfl⟩
/-- A row of types. -/
def RowT3 (w : World) (ao : Option Addr) (l : List T3) : Prop := RowG w ao 3 (l.map T3.cells)
theorem RowT3.below {w w' : World} {ao : Option Addr} {l : List T3} (h : RowT3 w ao l) (hb : Below w.heap.size w w') : RowT3 w' ao l := RowG.below h hb
theorem RowT3.get {w wr : World} {ao : Option Addr} {l : List T3} (h : RowT3 w ao l) (hbw : Below w.heap.size w wr) {j : Nat} (hj : j < l.length) : ∃ b off, ao = some ⟨b, off, none⟩ ∧ b < w.heap.size ∧ AtT3 wr b (off + j * 3) l[j] := by
 obtain ⟨b, off, e, hb, hc⟩ := rowG_at h hbw hj
 exact ⟨b, off, e, hb, AtT3.of hc⟩
end Go.Proofs.Ytagnbpobcijakaa

namespace Go.Proofs.Ytagnbpobcijakaa
open Go.RowKit Go.Sort

theorem set3_all {w0 w : World} {V B : Nat} {x y z : Value} {T : TypeId} (a b c : Value) (h : w.heap[V]? = some (.cells #[x, y, z] T (0, 0))) (hb : Below B w0 w) (hV : B ≤ V) :
  (((w.setCell ⟨V, 0, none⟩ a).setCell ⟨V, 1, none⟩ b).setCell ⟨V, 2, none⟩ c).cell? ⟨V, 0, none⟩ = some a ∧ (((w.setCell ⟨V, 0, none⟩ a).setCell ⟨V, 1, none⟩ b).setCell ⟨V, 2, none⟩ c).cell? ⟨V, 1, none⟩ = some b ∧ (((w.setCell ⟨V, 0, none⟩ a).setCell ⟨V, 1, none⟩ b).setCell ⟨V, 2, none⟩ c).cell? ⟨V, 2, none⟩ = some c ∧ Below B w0 (((w.setCell ⟨V, 0, none⟩ a).setCell ⟨V, 1, none⟩ b).setCell ⟨V, 2, none⟩ c) := by
 have q := heap_setCell_same _ V 2 _ _ c (heap_setCell_same _ V 1 _ _ b (heap_setCell_same w V 0 _ _ a h))
 exact ⟨by rw [Lib.cell_of_heap q]; rfl, by rw [Lib.cell_of_heap q]; rfl, by rw [Lib.cell_of_heap q]; rfl, ((hb.setCell (p := ⟨V, 0, none⟩) hV _).setCell (p := ⟨V, 1, none⟩) hV _).setCell (p := ⟨V, 2, none⟩) hV _⟩
set_option maxRecDepth 100000 in
theorem equalT3 (a b : T3) (W : World) : (Op.equal 54 a.val b.val).run Try.prog W = .ok (decide (a = b)) W := by
 obtain ⟨a0, a1, a2⟩ := a
 obtain ⟨b0, b1, b2⟩ := b
 unfold Op.equal Op.maxDepth T3.val
 rw [Op.equalIn]
 simp [go_sem]
 by_cases h0 : a0 = b0 <;> by_cases h1 : a1 = b1 <;> by_cases h2 : a2 = b2 <;> simp [toList_ba, h0, h1, h2]
theorem binNeqT3 (a b : T3) (W : World) : (binOp .neq 54 (.agg #[.int .i64 a.k, .int .i64 a.o, .string a.n]) (.agg #[.int .i64 b.k, .int .i64 b.o, .string b.n])).run Try.prog W = .ok (.bool (!decide (a = b))) W := by
 have h := equalT3 a b W
 unfold T3.val at h
 simp only [binOp, Sem.run_bind, h, Result.andThen_ok, Sem.run_pure]
theorem binEqlT3 (a b : T3) (W : World) : (binOp .eql 54 (.agg #[.int .i64 a.k, .int .i64 a.o, .string a.n]) (.agg #[.int .i64 b.k, .int .i64 b.o, .string b.n])).run Try.prog W = .ok (.bool (decide (a = b))) W := by
 have h := equalT3 a b W
 unfold T3.val at h
 simp only [binOp, Sem.run_bind, h, Result.andThen_ok, Sem.run_pure]
set_option maxHeartbeats 2000000 in
set_option maxRecDepth 1000000 in
theorem where_any (f : Bool) (k : Int) (w : World) : Calls Try.prog 64 #[.bool f, .int .i64 k] w fun e w' => e = .returned (whereT f k).ret ∧ Below w.heap.size w w' := by
 have b1 := blw1 w (.cells #[.int .i64 0, .int .i64 0, .string ⟨#[]⟩] 54)
 have h1 := alloc_heap w (.cells #[.int .i64 0, .int .i64 0, .string ⟨#[]⟩] 54)
 cases f
 ·go_enter Try.func64, Try.ntmps64
  go_upto_region 2 with fail
  generalize w.alloc _ = w1 at *
  obtain ⟨z0, z1, z2⟩ := bl3_ h1
  have zf : ∀ o, w1.frozen? ⟨w.heap.size, o, none⟩ = false := fun o => Lib.frozen_of_heap h1 o
  have HQ := hide (set3_all (.int .i64 0) (.int .i64 0) (.string ⟨#[]⟩) h1 b1 (Nat.le_refl _))
  go_wp2
  obtain ⟨q0, q1, q2, qb⟩ := unhide HQ
  exact bodyPost_ret (v := .tuple #[.agg #[.int .i64 0, .int .i64 0, .string ⟨#[]⟩], .int .i64 16]) (by simp [results, Try.results64, go_sem, q0, q1, q2]) rfl ⟨rfl, qb⟩
 ·go_enter Try.func64, Try.ntmps64
  go_upto_region 3 with fail
  generalize w.alloc _ = w1 at *
  obtain ⟨z0, z1, z2⟩ := bl3_ h1
  have zf : ∀ o, w1.frozen? ⟨w.heap.size, o, none⟩ = false := fun o => Lib.frozen_of_heap h1 o
  have HQ := hide (set3_all (.int .i64 k) (.int .i64 0) (.string ⟨#[]⟩) h1 b1 (Nat.le_refl _))
  go_wp2
  obtain ⟨q0, q1, q2, qb⟩ := unhide HQ
  exact bodyPost_ret (v := .tuple #[.agg #[.int .i64 k, .int .i64 0, .string ⟨#[]⟩], .int .i64 0]) (by simp [results, Try.results64, go_sem, q0, q1, q2]) rfl ⟨rfl, qb⟩
set_option maxHeartbeats 2000000 in
set_option maxRecDepth 1000000 in
theorem ofEntity_any (n : ByteArray) (f : Bool) (w : World) : Calls Try.prog 61 #[.string n, .bool f] w fun e w' => e = .returned (entT n f).ret ∧ Below w.heap.size w w' := by
 have b1 := blw1 w (.cells #[.int .i64 0, .int .i64 0, .string ⟨#[]⟩] 54)
 have h1 := alloc_heap w (.cells #[.int .i64 0, .int .i64 0, .string ⟨#[]⟩] 54)
 cases f
 ·go_enter Try.func61, Try.ntmps61
  go_upto_region 2 with fail
  generalize w.alloc _ = w1 at *
  obtain ⟨z0, z1, z2⟩ := bl3_ h1
  have zf : ∀ o, w1.frozen? ⟨w.heap.size, o, none⟩ = false := fun o => Lib.frozen_of_heap h1 o
  have HQ := hide (set3_all (.int .i64 0) (.int .i64 0) (.string ⟨#[]⟩) h1 b1 (Nat.le_refl _))
  go_wp2
  obtain ⟨q0, q1, q2, qb⟩ := unhide HQ
  exact bodyPost_ret (v := .tuple #[.agg #[.int .i64 0, .int .i64 0, .string ⟨#[]⟩], .int .i64 15]) (by simp [results, Try.results61, go_sem, q0, q1, q2]) rfl ⟨rfl, qb⟩
 ·go_enter Try.func61, Try.ntmps61
  go_upto_region 3 with fail
  generalize w.alloc _ = w1 at *
  obtain ⟨z0, z1, z2⟩ := bl3_ h1
  have zf : ∀ o, w1.frozen? ⟨w.heap.size, o, none⟩ = false := fun o => Lib.frozen_of_heap h1 o
  have HQ := hide (set3_all (.int .i64 4) (.int .i64 0) (.string n) h1 b1 (Nat.le_refl _))
  go_wp2
  obtain ⟨q0, q1, q2, qb⟩ := unhide HQ
  exact bodyPost_ret (v := .tuple #[.agg #[.int .i64 4, .int .i64 0, .string n], .int .i64 0]) (by simp [results, Try.results61, go_sem, q0, q1, q2]) rfl ⟨rfl, qb⟩

end Go.Proofs.Ytagnbpobcijakaa

namespace Go.Proofs.Ytagnbpobcijakaa
open Go.RowKit Go.Sort

theorem alloc2 (w : World) (o1 o2 : Obj) : Below w.heap.size w ((w.alloc o1).alloc o2) ∧ ((w.alloc o1).alloc o2).heap.size = w.heap.size + 2 ∧ ((w.alloc o1).alloc o2).heap[w.heap.size]? = some o1 ∧ ((w.alloc o1).alloc o2).heap[w.heap.size + 1]? = some o2 := by
 have b1 := blw1 w o1
 have b2 := blw1 (w.alloc o1) o2
 have z1 : (w.alloc o1).heap.size = w.heap.size + 1 := by simp
 have h2 := alloc_heap (w.alloc o1) o2
 rw [z1] at h2
 exact ⟨b1.trans (b2.mono b1.size), by simp, kept_of_below b2 (alloc_heap w o1), h2⟩
/-- A schema of no great rows. -/
structure SmS (s : SP) : Prop where
 ks : s.ks.length ≤ 281474976710656
 ac : s.ac.length ≤ 281474976710656
 k : ∀ k ∈ s.ks, k.ps.length ≤ 1048576 ∧ k.fs.length ≤ 1048576
 a : ∀ k ∈ s.ac, k.pr.length ≤ 1048576 ∧ k.re.length ≤ 1048576
set_option maxHeartbeats 2000000 in
set_option maxRecDepth 1000000 in
theorem ofVar_any (p ac r n : ByteArray) (w : World) : Calls Try.prog 62 #[.agg #[.string p, .string ac, .string r], .string n] w fun e w' => e = .returned (varT p r n).ret ∧ Below w.heap.size w w' := by
 obtain ⟨bX, zX, k1, k2⟩ := alloc2 w (.cells #[.string p, .string ac, .string r] 60) (.cells #[.int .i64 0, .int .i64 0, .string ⟨#[]⟩] 54)
 go_enter Try.func62, Try.ntmps62
 go_upto_region 1 with fail
 generalize (w.alloc _).alloc _ = w1 at *
 obtain ⟨ce0, ce1, ce2⟩ := bl3_ k1
 by_cases h1 : n = ⟨#[112, 114, 105, 110, 99, 105, 112, 97, 108]⟩
 ·subst h1
  have C := ofEntity_any p true w1
  have HE : varT p r ⟨#[112, 114, 105, 110, 99, 105, 112, 97, 108]⟩ = entT p true := by unfold varT; rw [if_pos (by decide)]; rfl
  obtain ⟨x, hx⟩ : ∃ x : TR, x = entT p true := ⟨_, rfl⟩
  rw [← hx] at C HE
  obtain ⟨⟨xk, xo, xn⟩, xe⟩ := x
  have HE := hide HE
  clear hx
  unfold TR.ret at C
  simp only at C
  go_wp2_with fail
  refine C.mono ?_
  clear C
  rintro e9 w5 ⟨rfl, b5⟩
  have hV5 := kept_of_below b5 k2
  have bb5 := bX.trans (b5.mono bX.size)
  clear ce0 ce1 ce2
  obtain ⟨z0, z1, z2⟩ := bl3_ hV5
  have zf : ∀ o, w5.frozen? ⟨w.heap.size + 1, o, none⟩ = false := fun o => Lib.frozen_of_heap hV5 o
  have HQ := hide (set3_all (.int .i64 xk) (.int .i64 xo) (.string xn) hV5 bb5 (Nat.le_succ _))
  go_wp2
  obtain ⟨q0, q1, q2, qb⟩ := unhide HQ
  exact bodyPost_ret (v := .tuple #[.agg #[.int .i64 xk, .int .i64 xo, .string xn], .int .i64 xe]) (by simp [results, Try.results62, go_sem, q0, q1, q2]) rfl ⟨by rw [unhide HE]; rfl, qb⟩
 have g1 : (n.toList == [112, 114, 105, 110, 99, 105, 112, 97, 108]) = false := lit_ne (by decide) h1
 have m1 : n ≠ sPrin := h1
 by_cases h2 : n = ⟨#[97, 99, 116, 105, 111, 110]⟩
 ·subst h2
  clear g1 h1
  have C := ofEntity_any ⟨#[65, 99, 116, 105, 111, 110]⟩ true w1
  have HE : varT p r ⟨#[97, 99, 116, 105, 111, 110]⟩ = entT ⟨#[65, 99, 116, 105, 111, 110]⟩ true := by unfold varT; rw [if_neg m1, if_pos (by decide)]; rfl
  obtain ⟨x, hx⟩ : ∃ x : TR, x = entT ⟨#[65, 99, 116, 105, 111, 110]⟩ true := ⟨_, rfl⟩
  rw [← hx] at C HE
  obtain ⟨⟨xk, xo, xn⟩, xe⟩ := x
  have HE := hide HE
  clear hx
  unfold TR.ret at C
  simp only at C
  go_wp2_with fail
  refine C.mono ?_
  clear C
  rintro e9 w5 ⟨rfl, b5⟩
  have hV5 := kept_of_below b5 k2
  have bb5 := bX.trans (b5.mono bX.size)
  clear ce0 ce1 ce2
  obtain ⟨z0, z1, z2⟩ := bl3_ hV5
  have zf : ∀ o, w5.frozen? ⟨w.heap.size + 1, o, none⟩ = false := fun o => Lib.frozen_of_heap hV5 o
  have HQ := hide (set3_all (.int .i64 xk) (.int .i64 xo) (.string xn) hV5 bb5 (Nat.le_succ _))
  go_wp2
  obtain ⟨q0, q1, q2, qb⟩ := unhide HQ
  exact bodyPost_ret (v := .tuple #[.agg #[.int .i64 xk, .int .i64 xo, .string xn], .int .i64 xe]) (by simp [results, Try.results62, go_sem, q0, q1, q2]) rfl ⟨by rw [unhide HE]; rfl, qb⟩
 have g2 : (n.toList == [97, 99, 116, 105, 111, 110]) = false := lit_ne (by decide) h2
 have m2 : n ≠ sActn := h2
 by_cases h3 : n = ⟨#[114, 101, 115, 111, 117, 114, 99, 101]⟩
 ·subst h3
  clear g1 h1 g2 h2
  have C := ofEntity_any r true w1
  have HE : varT p r ⟨#[114, 101, 115, 111, 117, 114, 99, 101]⟩ = entT r true := by unfold varT; rw [if_neg m1, if_neg m2, if_pos (by decide)]; rfl
  obtain ⟨x, hx⟩ : ∃ x : TR, x = entT r true := ⟨_, rfl⟩
  rw [← hx] at C HE
  obtain ⟨⟨xk, xo, xn⟩, xe⟩ := x
  have HE := hide HE
  clear hx
  unfold TR.ret at C
  simp only at C
  go_wp2_with fail
  refine C.mono ?_
  clear C
  rintro e9 w5 ⟨rfl, b5⟩
  have hV5 := kept_of_below b5 k2
  have bb5 := bX.trans (b5.mono bX.size)
  clear ce0 ce1 ce2
  obtain ⟨z0, z1, z2⟩ := bl3_ hV5
  have zf : ∀ o, w5.frozen? ⟨w.heap.size + 1, o, none⟩ = false := fun o => Lib.frozen_of_heap hV5 o
  have HQ := hide (set3_all (.int .i64 xk) (.int .i64 xo) (.string xn) hV5 bb5 (Nat.le_succ _))
  go_wp2
  obtain ⟨q0, q1, q2, qb⟩ := unhide HQ
  exact bodyPost_ret (v := .tuple #[.agg #[.int .i64 xk, .int .i64 xo, .string xn], .int .i64 xe]) (by simp [results, Try.results62, go_sem, q0, q1, q2]) rfl ⟨by rw [unhide HE]; rfl, qb⟩
 have g3 : (n.toList == [114, 101, 115, 111, 117, 114, 99, 101]) = false := lit_ne (by decide) h3
 have m3 : n ≠ sRes := h3
 clear h1 h2 h3
 have C := ofEntity_any ⟨#[]⟩ false w1
 have HE : varT p r n = entT ⟨#[]⟩ false := by unfold varT; rw [if_neg m1, if_neg m2, if_neg m3]; rfl
 obtain ⟨x, hx⟩ : ∃ x : TR, x = entT ⟨#[]⟩ false := ⟨_, rfl⟩
 rw [← hx] at C HE
 obtain ⟨⟨xk, xo, xn⟩, xe⟩ := x
 have HE := hide HE
 clear hx
 unfold TR.ret at C
 simp only at C
 go_wp2_with fail
 refine C.mono ?_
 clear C
 rintro e9 w5 ⟨rfl, b5⟩
 have hV5 := kept_of_below b5 k2
 have bb5 := bX.trans (b5.mono bX.size)
 clear ce0 ce1 ce2
 obtain ⟨z0, z1, z2⟩ := bl3_ hV5
 have zf : ∀ o, w5.frozen? ⟨w.heap.size + 1, o, none⟩ = false := fun o => Lib.frozen_of_heap hV5 o
 have HQ := hide (set3_all (.int .i64 xk) (.int .i64 xo) (.string xn) hV5 bb5 (Nat.le_succ _))
 go_wp2
 obtain ⟨q0, q1, q2, qb⟩ := unhide HQ
 exact bodyPost_ret (v := .tuple #[.agg #[.int .i64 xk, .int .i64 xo, .string xn], .int .i64 xe]) (by simp [results, Try.results62, go_sem, q0, q1, q2]) rfl ⟨by rw [unhide HE]; rfl, qb⟩
set_option maxHeartbeats 2000000 in
set_option maxRecDepth 1000000 in
theorem isNamed_any (s : SP) (v : Value) (t i : ByteArray) (w : World) (hsm : SmS s) (hs : IsS w v s) : Calls Try.prog 36 #[v, .agg #[.string t, .string i]] w fun e w' => e = .returned (.bool (namedB s t i)) ∧ Below w.heap.size w w' := by
 obtain ⟨ko, kc, ao, acp, rfl, _, _⟩ := hs.ex
 obtain ⟨bX, zX, k1, k2⟩ := alloc2 w (.cells #[.slice ko s.ks.length kc, .slice ao s.ac.length acp] 33) (.cells #[.string t, .string i] 36)
 have hs1 := hs.below bX
 go_enter Try.func36, Try.ntmps36
 go_upto_region 1 with fail
 generalize (w.alloc _).alloc _ = w1 at *
 obtain ⟨cs0, cs1⟩ := bl2_ k1
 obtain ⟨cu0, cu1⟩ := bl2_ k2
 by_cases h1 : t = ⟨#[65, 99, 116, 105, 111, 110]⟩
 ·subst h1
  have C := (mAction_any s _ i w1 hsm.ac hsm.a hs1).mono (fun e w9 h => And.intro (found_a h.1) h.2)
  have HE := hide (show namedB s ⟨#[65, 99, 116, 105, 111, 110]⟩ i = !noneB s.acts i from if_pos (by decide))
  generalize (!noneB s.acts i) = z at *
  clear hs hs1 k1 k2 zX
  go_wp2_with fail
  refine C.mono ?_
  clear C cs0 cs1 cu0 cu1
  rintro e9 w5 ⟨⟨y, rfl, _⟩, b5⟩
  have B5 := (bX.trans (b5.mono bX.size)).alloc ((bX.trans (b5.mono bX.size)).size) (.cells #[.string y.nm, .slice y.ao y.al y.ac, .slice y.bo y.bl y.bc] 83)
  go_wp2
  go_ret
  exact ⟨by rw [unhide HE]; rfl, B5⟩
 ·have g1 : (t.toList == [65, 99, 116, 105, 111, 110]) = false := lit_ne (by decide) h1
  have C := (mKind_any s _ t w1 hsm.ks hsm.k hs1).mono (fun e w9 h => And.intro (found_k h.1) h.2)
  have HE := hide (show namedB s t i = !noneB s.names t from if_neg h1)
  generalize (!noneB s.names t) = z at *
  clear hs hs1 k1 k2 zX h1
  go_wp2_with fail
  refine C.mono ?_
  clear C cs0 cs1 cu0 cu1
  rintro e9 w5 ⟨⟨y, rfl, _⟩, b5⟩
  have B5 := (bX.trans (b5.mono bX.size)).alloc ((bX.trans (b5.mono bX.size)).size) (.cells #[.string y.nm, .slice y.ao y.al y.ac, .slice y.bo y.bl y.bc] 80)
  go_wp2
  go_ret
  exact ⟨by rw [unhide HE]; rfl, B5⟩
set_option maxHeartbeats 2000000 in
set_option maxRecDepth 1000000 in
theorem ofField_any (s : SP) (v : Value) (kn n : ByteArray) (w : World) (hsm : SmS s) (hs : IsS w v s) : Calls Try.prog 63 #[v, .string kn, .string n] w fun e w' => e = .returned (fieldT s kn n).ret ∧ Below w.heap.size w w' := by
 obtain ⟨ko, kc, ao, acp, rfl, _, _⟩ := hs.ex
 obtain ⟨bX, zX, k1, k2⟩ := alloc2 w (.cells #[.slice ko s.ks.length kc, .slice ao s.ac.length acp] 33) (.cells #[.int .i64 0, .int .i64 0, .string ⟨#[]⟩] 54)
 have hs1 := hs.below bX
 go_enter Try.func63, Try.ntmps63
 go_upto_region 1 with fail
 generalize (w.alloc _).alloc _ = w1 at *
 obtain ⟨cs0, cs1⟩ := bl2_ k1
 have C := (mKind_any s _ kn w1 hsm.ks hsm.k hs1).mono (fun e w9 h => And.intro (found_k h.1) h.2)
 have hfl : (kOf s kn).fs.length ≤ 281474976710656 := by
  rcases kOf_mem s kn with hm | hm
  ·have := hsm.k _ hm
   omega
  ·rw [hm]
   exact Nat.zero_le _
 have HE := hide (show fieldT s kn n = if noneB s.names kn then (zT, 15) else if (fldT (kOf s kn).fs n).2 then ((fldT (kOf s kn).fs n).1, 0) else (zT, 15) from rfl)
 generalize noneB s.names kn = z at *
 generalize kOf s kn = K at *
 clear hs hs1
 go_wp2_with fail
 refine C.mono ?_
 clear C
 rintro e9 w5 ⟨⟨y, rfl, hy⟩, b5⟩
 have k25 := kept_of_below b5 k2
 have bb5 := bX.trans (b5.mono bX.size)
 have b6 := blw1 w5 (.cells #[.string y.nm, .slice y.ao y.al y.ac, .slice y.bo y.bl y.bc] 80)
 have h6 := alloc_heap w5 (.cells #[.string y.nm, .slice y.ao y.al y.ac, .slice y.bo y.bl y.bc] 80)
 have k26 := kept_of_below b6 k25
 have bb6 := bb5.trans (b6.mono bb5.size)
 have C2 := mField_any K y n _ hfl (hy.is.below b6)
 rw [fldV_T] at C2
 unfold N3.val at C2
 obtain ⟨⟨⟨xk, xo, xn⟩, f⟩, hx⟩ : ∃ x, x = fldT K.fs n := ⟨_, rfl⟩
 rw [← hx] at C2 HE
 simp only at C2 HE
 clear hx k1 k2 k25 cs0 cs1 b5 hy hfl bb5
 have V5 : w.heap.size + 1 < w5.heap.size + 1 := by
  have := (Array.getElem?_eq_some_iff.1 k26).1
  simpa using this
 go_upto_region 2 with fail
 generalize w5.alloc _ = w6 at *
 obtain ⟨yc0, yc1, yc2⟩ := bl3_ h6
 cases z
 case true =>
  have HE := hide (show fieldT s kn n = (⟨0, 0, ⟨#[]⟩⟩, 15) from (unhide HE).trans rfl)
  clear C2
  go_upto_region 3 with fail
  obtain ⟨z0, z1, z2⟩ := bl3_ k26
  have zf : ∀ o, w6.frozen? ⟨w.heap.size + 1, o, none⟩ = false := fun o => Lib.frozen_of_heap k26 o
  have HQ := hide (set3_all (.int .i64 0) (.int .i64 0) (.string ⟨#[]⟩) k26 bb6 (Nat.le_succ _))
  go_wp2
  obtain ⟨q0, q1, q2, qb⟩ := unhide HQ
  exact bodyPost_ret (v := .tuple #[.agg #[.int .i64 0, .int .i64 0, .string ⟨#[]⟩], .int .i64 15]) (by simp [results, Try.results63, go_sem, q0, q1, q2]) rfl ⟨by rw [unhide HE]; rfl, qb⟩
 case false =>
  have HE := hide (show fieldT s kn n = (if f then (⟨xk, xo, xn⟩, 0) else (zT, 15)) from (unhide HE).trans rfl)
  go_wp2_with fail
  refine C2.mono ?_
  clear C2
  rintro e9 w7 ⟨rfl, b7⟩
  have k27 := kept_of_below b7 k26
  have bb7 := bb6.trans (b7.mono bb6.size)
  have b8 := blw1 w7 (.cells #[.int .i64 xk, .int .i64 xo, .string xn] 54)
  have h8 := alloc_heap w7 (.cells #[.int .i64 xk, .int .i64 xo, .string xn] 54)
  have k28 := kept_of_below b8 k27
  have bb8 := bb7.trans (b8.mono bb7.size)
  clear yc0 yc1 yc2 k26 k27 bb6 bb7 b7 h6 b6
  go_upto_region 5 with fail
  generalize w7.alloc _ = w8 at *
  obtain ⟨tc0, tc1, tc2⟩ := bl3_ h8
  cases f
  case false =>
   have HE := hide (show fieldT s kn n = (⟨0, 0, ⟨#[]⟩⟩, 15) from (unhide HE).trans rfl)
   obtain ⟨z0, z1, z2⟩ := bl3_ k28
   have zf : ∀ o, w8.frozen? ⟨w.heap.size + 1, o, none⟩ = false := fun o => Lib.frozen_of_heap k28 o
   have HQ := hide (set3_all (.int .i64 0) (.int .i64 0) (.string ⟨#[]⟩) k28 bb8 (Nat.le_succ _))
   go_wp2
   obtain ⟨q0, q1, q2, qb⟩ := unhide HQ
   exact bodyPost_ret (v := .tuple #[.agg #[.int .i64 0, .int .i64 0, .string ⟨#[]⟩], .int .i64 15]) (by simp [results, Try.results63, go_sem, q0, q1, q2]) rfl ⟨by rw [unhide HE]; rfl, qb⟩
  case true =>
   have HE := hide (show fieldT s kn n = (⟨xk, xo, xn⟩, 0) from (unhide HE).trans rfl)
   obtain ⟨z0, z1, z2⟩ := bl3_ k28
   have zf : ∀ o, w8.frozen? ⟨w.heap.size + 1, o, none⟩ = false := fun o => Lib.frozen_of_heap k28 o
   have HQ := hide (set3_all (.int .i64 xk) (.int .i64 xo) (.string xn) k28 bb8 (Nat.le_succ _))
   go_wp2
   obtain ⟨q0, q1, q2, qb⟩ := unhide HQ
   exact bodyPost_ret (v := .tuple #[.agg #[.int .i64 xk, .int .i64 xo, .string xn], .int .i64 0]) (by simp [results, Try.results63, go_sem, q0, q1, q2]) rfl ⟨by rw [unhide HE]; rfl, qb⟩
set_option maxHeartbeats 2000000 in
set_option maxRecDepth 1000000 in
theorem ofThree_any (k ck co : Int) (cn : ByteArray) (ak ao : Int) (an : ByteArray) (bk bo : Int) (bn : ByteArray) (w : World) : Calls Try.prog 50 #[.int .i64 k, .agg #[.int .i64 ck, .int .i64 co, .string cn], .agg #[.int .i64 ak, .int .i64 ao, .string an], .agg #[.int .i64 bk, .int .i64 bo, .string bn]] w fun e w' => e = .returned (threeT k ⟨ck, co, cn⟩ ⟨ak, ao, an⟩ ⟨bk, bo, bn⟩).ret ∧ Below w.heap.size w w' := by
 obtain ⟨bX, zX, k1, k2, k3, k4⟩ := alloc4 w (.cells #[.int .i64 ck, .int .i64 co, .string cn] 54) (.cells #[.int .i64 ak, .int .i64 ao, .string an] 54) (.cells #[.int .i64 bk, .int .i64 bo, .string bn] 54) (.cells #[.int .i64 0, .int .i64 0, .string ⟨#[]⟩] 54)
 have BT := binNeqT3 ⟨ak, ao, an⟩ ⟨bk, bo, bn⟩
 simp only at BT
 go_enter Try.func50, Try.ntmps50
 go_upto_region 1 with fail
 generalize (((w.alloc _).alloc _).alloc _).alloc _ = w1 at *
 obtain ⟨cc0, cc1, cc2⟩ := bl3_ k1
 obtain ⟨ca0, ca1, ca2⟩ := bl3_ k2
 obtain ⟨cb0, cb1, cb2⟩ := bl3_ k3
 by_cases h0 : k = 25
 case neg =>
  have g0 : (k == 25) = false := by simpa using h0
  have HE := hide (show threeT k ⟨ck, co, cn⟩ ⟨ak, ao, an⟩ ⟨bk, bo, bn⟩ = (⟨0, 0, ⟨#[]⟩⟩, 13) from if_neg h0)
  obtain ⟨z0, z1, z2⟩ := bl3_ k4
  have zf : ∀ o, w1.frozen? ⟨w.heap.size + 3, o, none⟩ = false := fun o => Lib.frozen_of_heap k4 o
  have HQ := hide (set3_all (.int .i64 0) (.int .i64 0) (.string ⟨#[]⟩) k4 bX (Nat.le_add_right _ 3))
  go_wp2
  obtain ⟨q0, q1, q2, qb⟩ := unhide HQ
  exact bodyPost_ret (v := .tuple #[.agg #[.int .i64 0, .int .i64 0, .string ⟨#[]⟩], .int .i64 13]) (by simp [results, Try.results50, go_sem, q0, q1, q2]) rfl ⟨by rw [unhide HE]; rfl, qb⟩
 subst h0
 by_cases h1 : ck = 1
 case neg =>
  have g1 : (ck == 1) = false := by simpa using h1
  have HE := hide (show threeT 25 ⟨ck, co, cn⟩ ⟨ak, ao, an⟩ ⟨bk, bo, bn⟩ = (⟨0, 0, ⟨#[]⟩⟩, 16) from (if_pos rfl).trans (if_neg (fun h => h1 h.1)))
  obtain ⟨z0, z1, z2⟩ := bl3_ k4
  have zf : ∀ o, w1.frozen? ⟨w.heap.size + 3, o, none⟩ = false := fun o => Lib.frozen_of_heap k4 o
  have HQ := hide (set3_all (.int .i64 0) (.int .i64 0) (.string ⟨#[]⟩) k4 bX (Nat.le_add_right _ 3))
  go_wp2
  obtain ⟨q0, q1, q2, qb⟩ := unhide HQ
  exact bodyPost_ret (v := .tuple #[.agg #[.int .i64 0, .int .i64 0, .string ⟨#[]⟩], .int .i64 16]) (by simp [results, Try.results50, go_sem, q0, q1, q2]) rfl ⟨by rw [unhide HE]; rfl, qb⟩
 subst h1
 by_cases h2 : (⟨ak, ao, an⟩ : T3) = ⟨bk, bo, bn⟩
 case neg =>
  rw [decide_eq_false h2] at BT
  simp only [Bool.not_false] at BT
  have HE := hide (show threeT 25 ⟨1, co, cn⟩ ⟨ak, ao, an⟩ ⟨bk, bo, bn⟩ = (⟨0, 0, ⟨#[]⟩⟩, 16) from (if_pos rfl).trans (if_neg (fun h => h2 h.2)))
  obtain ⟨z0, z1, z2⟩ := bl3_ k4
  have zf : ∀ o, w1.frozen? ⟨w.heap.size + 3, o, none⟩ = false := fun o => Lib.frozen_of_heap k4 o
  have HQ := hide (set3_all (.int .i64 0) (.int .i64 0) (.string ⟨#[]⟩) k4 bX (Nat.le_add_right _ 3))
  go_wp2
  obtain ⟨q0, q1, q2, qb⟩ := unhide HQ
  exact bodyPost_ret (v := .tuple #[.agg #[.int .i64 0, .int .i64 0, .string ⟨#[]⟩], .int .i64 16]) (by simp [results, Try.results50, go_sem, q0, q1, q2]) rfl ⟨by rw [unhide HE]; rfl, qb⟩
 rw [decide_eq_true h2] at BT
 simp only [Bool.not_true] at BT
 have HE := hide (show threeT 25 ⟨1, co, cn⟩ ⟨ak, ao, an⟩ ⟨bk, bo, bn⟩ = (⟨ak, ao, an⟩, 0) from (if_pos rfl).trans (if_pos ⟨rfl, h2⟩))
 clear h2
 obtain ⟨z0, z1, z2⟩ := bl3_ k4
 have zf : ∀ o, w1.frozen? ⟨w.heap.size + 3, o, none⟩ = false := fun o => Lib.frozen_of_heap k4 o
 have HQ := hide (set3_all (.int .i64 ak) (.int .i64 ao) (.string an) k4 bX (Nat.le_add_right _ 3))
 go_wp2
 obtain ⟨q0, q1, q2, qb⟩ := unhide HQ
 exact bodyPost_ret (v := .tuple #[.agg #[.int .i64 ak, .int .i64 ao, .string an], .int .i64 0]) (by simp [results, Try.results50, go_sem, q0, q1, q2]) rfl ⟨by rw [unhide HE]; rfl, qb⟩
set_option maxHeartbeats 2000000 in
set_option maxRecDepth 1000000 in
theorem ofOne_any (s : SP) (v : Value) (k : Int) (eb : Bool) (en : Int) (es et ei : ByteArray) (elo : Option Addr) (ell elc : Nat) (ak ao_ : Int) (an : ByteArray) (w : World) (hsm : SmS s) (hs : IsS w v s) : Calls Try.prog 48 #[v, .agg #[.int .i64 k, .bool eb, .int .i64 en, .string es, .string et, .string ei, .slice elo ell elc], .agg #[.int .i64 ak, .int .i64 ao_, .string an]] w fun e w' => e = .returned (oneT s k es ⟨ak, ao_, an⟩).ret ∧ Below w.heap.size w w' := by
 obtain ⟨ko, kc, ao, acp, rfl, _, _⟩ := hs.ex
 obtain ⟨bX, zX, k1, k2, k3, k4⟩ := alloc4 w (.cells #[.slice ko s.ks.length kc, .slice ao s.ac.length acp] 33) (.cells #[.int .i64 k, .bool eb, .int .i64 en, .string es, .string et, .string ei, .slice elo ell elc] 39) (.cells #[.int .i64 ak, .int .i64 ao_, .string an] 54) (.cells #[.int .i64 0, .int .i64 0, .string ⟨#[]⟩] 54)
 have hs1 := hs.below bX
 go_enter Try.func48, Try.ntmps48
 go_upto_region 1 with fail
 generalize (((w.alloc _).alloc _).alloc _).alloc _ = w1 at *
 obtain ⟨cs0, cs1⟩ := bl2_ k1
 have ce0 : w1.cell? ⟨w.heap.size + 1, 0, none⟩ = some (.int .i64 k) := lc_ k2 rfl
 have ce3 : w1.cell? ⟨w.heap.size + 1, 3, none⟩ = some (.string es) := lc_ k2 rfl
 obtain ⟨ca0, ca1, ca2⟩ := bl3_ k3
 clear k1 k2 k3 zX hs
 by_cases ho : k = 7
 ·subst ho
  by_cases h1 : ak = 4
  ·subst h1
   have C := ofField_any s _ an es w1 hsm hs1
   have HE : oneT s 7 es ⟨4, ao_, an⟩ = fieldT s an es := rfl
   obtain ⟨x, hx⟩ : ∃ x : TR, x = fieldT s an es := ⟨_, rfl⟩
   rw [← hx] at C HE
   obtain ⟨⟨xk, xo, xn⟩, xe⟩ := x
   have HE := hide HE
   clear hx
   unfold TR.ret at C
   simp only at C
   go_wp2_with fail
   refine C.mono ?_
   clear C
   rintro e9 w5 ⟨rfl, b5⟩
   have hV5 := kept_of_below b5 k4
   have bb5 := bX.trans (b5.mono bX.size)
   obtain ⟨z0, z1, z2⟩ := bl3_ hV5
   have zf : ∀ o, w5.frozen? ⟨w.heap.size + 3, o, none⟩ = false := fun o => Lib.frozen_of_heap hV5 o
   have HQ := hide (set3_all (.int .i64 xk) (.int .i64 xo) (.string xn) hV5 bb5 (Nat.le_add_right _ 3))
   go_wp2
   obtain ⟨q0, q1, q2, qb⟩ := unhide HQ
   exact bodyPost_ret (v := .tuple #[.agg #[.int .i64 xk, .int .i64 xo, .string xn], .int .i64 xe]) (by simp [results, Try.results48, go_sem, q0, q1, q2]) rfl ⟨by rw [unhide HE]; rfl, qb⟩
  ·have g1 : (ak == 4) = false := by simpa using h1
   have HE := hide (show oneT s 7 es ⟨ak, ao_, an⟩ = (⟨0, 0, ⟨#[]⟩⟩, 16) from by unfold oneT; rw [if_pos rfl, if_neg h1]; rfl)
   obtain ⟨z0, z1, z2⟩ := bl3_ k4
   have zf : ∀ o, w1.frozen? ⟨w.heap.size + 3, o, none⟩ = false := fun o => Lib.frozen_of_heap k4 o
   have HQ := hide (set3_all (.int .i64 0) (.int .i64 0) (.string ⟨#[]⟩) k4 bX (Nat.le_add_right _ 3))
   go_wp2
   obtain ⟨q0, q1, q2, qb⟩ := unhide HQ
   exact bodyPost_ret (v := .tuple #[.agg #[.int .i64 0, .int .i64 0, .string ⟨#[]⟩], .int .i64 16]) (by simp [results, Try.results48, go_sem, q0, q1, q2]) rfl ⟨by rw [unhide HE]; rfl, qb⟩
 have g7 : (k == 7) = false := by simpa using ho
 have m7 := ho
 clear ho
 by_cases ho : k = 8
 ·subst ho
  clear g7 m7
  obtain ⟨z, hzz⟩ : ∃ z, (ak == 4) = z := ⟨_, rfl⟩
  have hzd : decide (ak = 4) = z := by rw [← hzz]; rfl
  have C := where_any z 1 w1
  have HE : oneT s 8 es ⟨ak, ao_, an⟩ = whereT z 1 := by rw [← hzd]; rfl
  obtain ⟨x, hx⟩ : ∃ x : TR, x = whereT z 1 := ⟨_, rfl⟩
  rw [← hx] at C HE
  obtain ⟨⟨xk, xo, xn⟩, xe⟩ := x
  have HE := hide HE
  clear hx
  unfold TR.ret at C
  simp only at C
  go_wp2_with fail
  refine C.mono ?_
  clear C
  rintro e9 w5 ⟨rfl, b5⟩
  have hV5 := kept_of_below b5 k4
  have bb5 := bX.trans (b5.mono bX.size)
  obtain ⟨z0, z1, z2⟩ := bl3_ hV5
  have zf : ∀ o, w5.frozen? ⟨w.heap.size + 3, o, none⟩ = false := fun o => Lib.frozen_of_heap hV5 o
  have HQ := hide (set3_all (.int .i64 xk) (.int .i64 xo) (.string xn) hV5 bb5 (Nat.le_add_right _ 3))
  go_wp2
  obtain ⟨q0, q1, q2, qb⟩ := unhide HQ
  exact bodyPost_ret (v := .tuple #[.agg #[.int .i64 xk, .int .i64 xo, .string xn], .int .i64 xe]) (by simp [results, Try.results48, go_sem, q0, q1, q2]) rfl ⟨by rw [unhide HE]; rfl, qb⟩
 have g8 : (k == 8) = false := by simpa using ho
 have m8 := ho
 clear ho
 by_cases ho : k = 10
 ·subst ho
  clear g7 m7 g8 m8
  obtain ⟨z, hzz⟩ : ∃ z, (ak == 3) = z := ⟨_, rfl⟩
  have hzd : decide (ak = 3) = z := by rw [← hzz]; rfl
  have C := where_any z 1 w1
  have HE : oneT s 10 es ⟨ak, ao_, an⟩ = whereT z 1 := by rw [← hzd]; rfl
  obtain ⟨x, hx⟩ : ∃ x : TR, x = whereT z 1 := ⟨_, rfl⟩
  rw [← hx] at C HE
  obtain ⟨⟨xk, xo, xn⟩, xe⟩ := x
  have HE := hide HE
  clear hx
  unfold TR.ret at C
  simp only at C
  go_wp2_with fail
  refine C.mono ?_
  clear C
  rintro e9 w5 ⟨rfl, b5⟩
  have hV5 := kept_of_below b5 k4
  have bb5 := bX.trans (b5.mono bX.size)
  obtain ⟨z0, z1, z2⟩ := bl3_ hV5
  have zf : ∀ o, w5.frozen? ⟨w.heap.size + 3, o, none⟩ = false := fun o => Lib.frozen_of_heap hV5 o
  have HQ := hide (set3_all (.int .i64 xk) (.int .i64 xo) (.string xn) hV5 bb5 (Nat.le_add_right _ 3))
  go_wp2
  obtain ⟨q0, q1, q2, qb⟩ := unhide HQ
  exact bodyPost_ret (v := .tuple #[.agg #[.int .i64 xk, .int .i64 xo, .string xn], .int .i64 xe]) (by simp [results, Try.results48, go_sem, q0, q1, q2]) rfl ⟨by rw [unhide HE]; rfl, qb⟩
 have g10 : (k == 10) = false := by simpa using ho
 have m10 := ho
 clear ho
 by_cases ho : k = 11
 ·subst ho
  clear g7 m7 g8 m8 g10 m10
  obtain ⟨z, hzz⟩ : ∃ z, (ak == 1) = z := ⟨_, rfl⟩
  have hzd : decide (ak = 1) = z := by rw [← hzz]; rfl
  have C := where_any z 1 w1
  have HE : oneT s 11 es ⟨ak, ao_, an⟩ = whereT z 1 := by rw [← hzd]; rfl
  obtain ⟨x, hx⟩ : ∃ x : TR, x = whereT z 1 := ⟨_, rfl⟩
  rw [← hx] at C HE
  obtain ⟨⟨xk, xo, xn⟩, xe⟩ := x
  have HE := hide HE
  clear hx
  unfold TR.ret at C
  simp only at C
  go_wp2_with fail
  refine C.mono ?_
  clear C
  rintro e9 w5 ⟨rfl, b5⟩
  have hV5 := kept_of_below b5 k4
  have bb5 := bX.trans (b5.mono bX.size)
  obtain ⟨z0, z1, z2⟩ := bl3_ hV5
  have zf : ∀ o, w5.frozen? ⟨w.heap.size + 3, o, none⟩ = false := fun o => Lib.frozen_of_heap hV5 o
  have HQ := hide (set3_all (.int .i64 xk) (.int .i64 xo) (.string xn) hV5 bb5 (Nat.le_add_right _ 3))
  go_wp2
  obtain ⟨q0, q1, q2, qb⟩ := unhide HQ
  exact bodyPost_ret (v := .tuple #[.agg #[.int .i64 xk, .int .i64 xo, .string xn], .int .i64 xe]) (by simp [results, Try.results48, go_sem, q0, q1, q2]) rfl ⟨by rw [unhide HE]; rfl, qb⟩
 have g11 : (k == 11) = false := by simpa using ho
 have m11 := ho
 clear ho
 by_cases ho : k = 12
 ·subst ho
  clear g7 m7 g8 m8 g10 m10 g11 m11
  obtain ⟨z, hzz⟩ : ∃ z, (ak == 2) = z := ⟨_, rfl⟩
  have hzd : decide (ak = 2) = z := by rw [← hzz]; rfl
  have C := where_any z 2 w1
  have HE : oneT s 12 es ⟨ak, ao_, an⟩ = whereT z 2 := by rw [← hzd]; rfl
  obtain ⟨x, hx⟩ : ∃ x : TR, x = whereT z 2 := ⟨_, rfl⟩
  rw [← hx] at C HE
  obtain ⟨⟨xk, xo, xn⟩, xe⟩ := x
  have HE := hide HE
  clear hx
  unfold TR.ret at C
  simp only at C
  go_wp2_with fail
  refine C.mono ?_
  clear C
  rintro e9 w5 ⟨rfl, b5⟩
  have hV5 := kept_of_below b5 k4
  have bb5 := bX.trans (b5.mono bX.size)
  obtain ⟨z0, z1, z2⟩ := bl3_ hV5
  have zf : ∀ o, w5.frozen? ⟨w.heap.size + 3, o, none⟩ = false := fun o => Lib.frozen_of_heap hV5 o
  have HQ := hide (set3_all (.int .i64 xk) (.int .i64 xo) (.string xn) hV5 bb5 (Nat.le_add_right _ 3))
  go_wp2
  obtain ⟨q0, q1, q2, qb⟩ := unhide HQ
  exact bodyPost_ret (v := .tuple #[.agg #[.int .i64 xk, .int .i64 xo, .string xn], .int .i64 xe]) (by simp [results, Try.results48, go_sem, q0, q1, q2]) rfl ⟨by rw [unhide HE]; rfl, qb⟩
 have g12 : (k == 12) = false := by simpa using ho
 have m12 := ho
 clear ho
 have HE := hide (show oneT s k es ⟨ak, ao_, an⟩ = (⟨0, 0, ⟨#[]⟩⟩, 13) from by unfold oneT; rw [if_neg m7, if_neg m8, if_neg m10, if_neg m11, if_neg m12]; rfl)
 obtain ⟨z0, z1, z2⟩ := bl3_ k4
 have zf : ∀ o, w1.frozen? ⟨w.heap.size + 3, o, none⟩ = false := fun o => Lib.frozen_of_heap k4 o
 have HQ := hide (set3_all (.int .i64 0) (.int .i64 0) (.string ⟨#[]⟩) k4 bX (Nat.le_add_right _ 3))
 go_wp2
 obtain ⟨q0, q1, q2, qb⟩ := unhide HQ
 exact bodyPost_ret (v := .tuple #[.agg #[.int .i64 0, .int .i64 0, .string ⟨#[]⟩], .int .i64 13]) (by simp [results, Try.results48, go_sem, q0, q1, q2]) rfl ⟨by rw [unhide HE]; rfl, qb⟩
end Go.Proofs.Ytagnbpobcijakaa
