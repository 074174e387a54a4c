/-
  chancellaw5.leaf: what it returns.
  chancellaw5.Tree: how a node's row of kids grows (no walk in it).
  chancellaw5.Tree: what it returns.
  chancellaw5.Tree of a node.
-/
import Derived.Test.YtacljmckohbjaaaGreatRwAL
import Derived.Test.YtacljmckohbjaaaGreatExBS
import Derived.Test.YtacljmckohbjaaaGreatVeMN
namespace Go.Proofs.YtacljmckohbjaaaGreat
open Go.RowKit Go.Sort

def vr3 : List (List UInt8) := [[112, 114, 105, 110, 99, 105, 112, 97, 108], [97, 99, 116, 105, 111, 110], [114, 101, 115, 111, 117, 114, 99, 101]]
def vrI (n : Int) : List UInt8 := vr3.getD (n % 3).toNat []
theorem vr_cell (m : Nat) (hm : m < 3) : (#[.string ⟨#[112, 114, 105, 110, 99, 105, 112, 97, 108]⟩, .string ⟨#[97, 99, 116, 105, 111, 110]⟩, .string ⟨#[114, 101, 115, 111, 117, 114, 99, 101]⟩] : Array Value)[m]? = some (.string (ba (vr3.getD m []))) := by
  match m, hm with
  | 0, _ | 1, _ | 2, _ => rfl
/-- A leaf, as the law makes it. -/
def leafR (k : Int) (n : Int) (s : List Int) : R7 :=
  if k = 0 then ⟨1, n.tmod 2 == 0, 0, ⟨#[]⟩, ⟨#[]⟩, ⟨#[]⟩, none, 0, 0⟩ else if k = 1 then ⟨2, false, n % 4611686018427387904, ⟨#[]⟩, ⟨#[]⟩, ⟨#[]⟩, none, 0, 0⟩ else if k = 2 then ⟨3, false, 0, ba (idt5 s), ⟨#[]⟩, ⟨#[]⟩, none, 0, 0⟩ else if k = 3 then ⟨4, false, 0, ⟨#[]⟩, ba (tyI5 n), ba (idt5 s), none, 0, 0⟩ else if k = 4 then ⟨5, false, 0, ba (vrI n), ⟨#[]⟩, ⟨#[]⟩, none, 0, 0⟩ else ⟨6, false, 0, ⟨#[]⟩, ⟨#[]⟩, ⟨#[]⟩, none, 0, 0⟩
def leafX (k : Int) (n : Int) (s : List Int) : Ex :=
  if k = 0 then eBool (n.tmod 2 == 0) else if k = 1 then eLong (n % 4611686018427387904) else if k = 2 then eStr (idt5 s) else if k = 3 then eUid (tyI5 n) (idt5 s) else if k = 4 then eVar (vrI n) else eOp 6 []
theorem leaf_is (k n : Int) (s : List Int) (w : World) (P : Nat → Prop) : IsE w P (leafR k n s) (leafX k n s) := by
  unfold leafR leafX
  repeat' split
  all_goals
    first | unfold eBool | unfold eLong | unfold eStr | unfold eUid | unfold eVar | unfold eOp
    unfold IsE IsEs
    exact ⟨rfl, rfl, rfl, rfl, rfl, rfl, rfl, trivial⟩

set_option maxHeartbeats 4000000 in
set_option maxRecDepth 1000000 in
theorem leaf5_any (r : R4) (s : List Int) (w : World) (hl : s.length ≤ 9223372036854775807) (hsl : r.sl = s.length) (hc : s.length ≤ r.sc) (hz : IntsAt w r.so s) :
    Calls Tryz.prog 18 #[r.val] w fun e w' => e = .returned (leafR (r.op % 6) r.n s).val ∧ Below w.heap.size w w' := by
  have W6 := fun w' => within5_any r.op 6 (by decide) (by decide) w'
  have hk0 : r.op % 6 = 0 ∨ r.op % 6 = 1 ∨ r.op % 6 = 2 ∨ r.op % 6 = 3 ∨ r.op % 6 = 4 ∨ r.op % 6 = 5 := by omega
  have b2 := below2 w (.cells #[.int .i64 r.op, .int .i64 r.n, .slice r.so r.sl r.sc, .slice r.lo r.ll r.lc] 26) (.cells #[.int .i64 0, .bool false, .int .i64 0, .string ⟨#[]⟩, .string ⟨#[]⟩, .string ⟨#[]⟩, .slice none 0 0] 42)
  have Z1 : ((w.alloc (.cells #[.int .i64 r.op, .int .i64 r.n, .slice r.so r.sl r.sc, .slice r.lo r.ll r.lc] 26)).alloc (.cells #[.int .i64 0, .bool false, .int .i64 0, .string ⟨#[]⟩, .string ⟨#[]⟩, .string ⟨#[]⟩, .slice none 0 0] 42)).heap[w.heap.size]? = some (.cells #[.int .i64 r.op, .int .i64 r.n, .slice r.so r.sl r.sc, .slice r.lo r.ll r.lc] 26 (0, 0)) := kept_of_below (newS _ _) (alloc_heap _ _)
  have Z2 : ((w.alloc (.cells #[.int .i64 r.op, .int .i64 r.n, .slice r.so r.sl r.sc, .slice r.lo r.ll r.lc] 26)).alloc (.cells #[.int .i64 0, .bool false, .int .i64 0, .string ⟨#[]⟩, .string ⟨#[]⟩, .string ⟨#[]⟩, .slice none 0 0] 42)).heap[w.heap.size + 1]? = some (.cells #[.int .i64 0, .bool false, .int .i64 0, .string ⟨#[]⟩, .string ⟨#[]⟩, .string ⟨#[]⟩, .slice none 0 0] 42 (0, 0)) := by
    have h := alloc_heap (w.alloc (.cells #[.int .i64 r.op, .int .i64 r.n, .slice r.so r.sl r.sc, .slice r.lo r.ll r.lc] 26)) (.cells #[.int .i64 0, .bool false, .int .i64 0, .string ⟨#[]⟩, .string ⟨#[]⟩, .string ⟨#[]⟩, .slice none 0 0] 42)
    rw [show (w.alloc (.cells #[.int .i64 r.op, .int .i64 r.n, .slice r.so r.sl r.sc, .slice r.lo r.ll r.lc] 26)).heap.size = w.heap.size + 1 by simp] at h
    exact h
  have hz2 := hz.below b2
  rw [hsl] at b2 Z1 Z2 hz2
  unfold R4.val
  rw [hsl]
  rcases hk0 with hk | hk | hk | hk | hk | hk
  · rw [hk] at W6 ⊢
    have hv : leafR 0 r.n s = ⟨1, r.n.tmod 2 == 0, 0, ⟨#[]⟩, ⟨#[]⟩, ⟨#[]⟩, none, 0, 0⟩ := rfl
    rw [hv]
    clear hv hk
    go_enter Tryz.func18, Tryz.ntmps18
    go_upto_region 1 with fail
    generalize (w.alloc _).alloc _ = w2 at *
    obtain ⟨x0, x1, x2, x3, _⟩ := blk4 Z1
    obtain ⟨y0, y1, y2, y3, y4, y5, y6, yf⟩ := blk7 Z2
    go_wp2_with fail
    refine (W6 _).mono ?_
    rintro e w3 ⟨rfl, rfl⟩
    clear W6
    go_wp2
    exact bodyPost_ret (v := R7.val _) (by simp [results, Tryz.results18, go_sem, y0, y1, y2, y3, y4, y5, y6, R7.val]) rfl ⟨rfl, set7S_below b2 (Nat.le_succ _) _ _ _ _ _ _ _⟩
  · rw [hk] at W6 ⊢
    have hv : leafR 1 r.n s = ⟨2, false, r.n % 4611686018427387904, ⟨#[]⟩, ⟨#[]⟩, ⟨#[]⟩, none, 0, 0⟩ := rfl
    rw [hv]
    clear hv hk
    have WN := fun w' => within62_any r.n 4611686018427387904 (by decide) (by decide) w'
    go_enter Tryz.func18, Tryz.ntmps18
    go_upto_region 1 with fail
    generalize (w.alloc _).alloc _ = w2 at *
    obtain ⟨x0, x1, x2, x3, _⟩ := blk4 Z1
    obtain ⟨y0, y1, y2, y3, y4, y5, y6, yf⟩ := blk7 Z2
    go_wp2_with fail
    refine (W6 _).mono ?_
    rintro e w3 ⟨rfl, rfl⟩
    clear W6
    go_wp2_with fail
    refine (WN _).mono ?_
    rintro e w4 ⟨rfl, rfl⟩
    clear WN
    go_wp2
    exact bodyPost_ret (v := R7.val _) (by simp [results, Tryz.results18, go_sem, y0, y1, y2, y3, y4, y5, y6, R7.val]) rfl ⟨rfl, set7S_below b2 (Nat.le_succ _) _ _ _ _ _ _ _⟩
  · rw [hk] at W6 ⊢
    have hv : leafR 2 r.n s = ⟨3, false, 0, ba (idt5 s), ⟨#[]⟩, ⟨#[]⟩, none, 0, 0⟩ := rfl
    rw [hv]
    clear hv hk
    have ID := id5_any s r.so r.sc _ hl hc hz2
    generalize ba (idt5 s) = X at *
    go_enter Tryz.func18, Tryz.ntmps18
    go_upto_region 1 with fail
    generalize (w.alloc _).alloc _ = w2 at *
    obtain ⟨x0, x1, x2, x3, _⟩ := blk4 Z1
    obtain ⟨y0, y1, y2, y3, y4, y5, y6, yf⟩ := blk7 Z2
    go_wp2_with fail
    refine (W6 _).mono ?_
    rintro e w3 ⟨rfl, rfl⟩
    clear W6
    go_wp2_with fail
    refine ID.mono ?_
    rintro e w4 ⟨rfl, b4⟩
    have b04 := b2.trans (b4.mono b2.size)
    clear x0 x1 x2 x3 y0 y1 y2 y3 y4 y5 y6 yf ID
    obtain ⟨y0, y1, y2, y3, y4, y5, y6, yf⟩ := blk7 (kept_of_below b4 Z2)
    go_wp2
    exact bodyPost_ret (v := R7.val _) (by simp [results, Tryz.results18, go_sem, y0, y1, y2, y3, y4, y5, y6, R7.val]) rfl ⟨rfl, set7S_below b04 (Nat.le_succ _) _ _ _ _ _ _ _⟩
  · rw [hk] at W6 ⊢
    have hv : leafR 3 r.n s = ⟨4, false, 0, ⟨#[]⟩, ba (tyI5 r.n), ba (idt5 s), none, 0, 0⟩ := rfl
    rw [hv]
    clear hv hk
    have ID := uid5_any r.n s r.so r.sc _ hl hc hz2
    generalize ba (idt5 s) = X at *
    generalize ba (tyI5 r.n) = Y at *
    go_enter Tryz.func18, Tryz.ntmps18
    go_upto_region 1 with fail
    generalize (w.alloc _).alloc _ = w2 at *
    obtain ⟨x0, x1, x2, x3, _⟩ := blk4 Z1
    obtain ⟨y0, y1, y2, y3, y4, y5, y6, yf⟩ := blk7 Z2
    go_wp2_with fail
    refine (W6 _).mono ?_
    rintro e w3 ⟨rfl, rfl⟩
    clear W6
    go_wp2_with fail
    refine ID.mono ?_
    rintro e w4 ⟨rfl, b4⟩
    have b04 := b2.trans (b4.mono b2.size)
    clear x0 x1 x2 x3 y0 y1 y2 y3 y4 y5 y6 yf ID
    obtain ⟨y0, y1, y2, y3, y4, y5, y6, yf⟩ := blk7 (kept_of_below b4 Z2)
    go_wp2
    exact bodyPost_ret (v := R7.val _) (by simp [results, Tryz.results18, go_sem, y0, y1, y2, y3, y4, y5, y6, R7.val]) rfl ⟨rfl, set7S_below b04 (Nat.le_succ _) _ _ _ _ _ _ _⟩
  · rw [hk] at W6 ⊢
    obtain ⟨m, hm⟩ : ∃ m : Nat, (m : Int) = r.n % 3 := ⟨(r.n % 3).toNat, by omega⟩
    have hm3 : m < 3 := by omega
    have W3 := fun w' => within5_any r.n 3 (by decide) (by decide) w'
    rw [← hm] at W3
    have hvi : vrI r.n = vr3.getD m [] := by unfold vrI; rw [← hm]; rfl
    have hv : leafR 4 r.n s = ⟨5, false, 0, ba (vrI r.n), ⟨#[]⟩, ⟨#[]⟩, none, 0, 0⟩ := rfl
    rw [hv, hvi]
    have hcell := vr_cell m hm3
    generalize ba (vr3.getD m []) = X at *
    have i1 : (m : Int) < 3 := by omega
    clear hv hk hvi hm
    go_enter Tryz.func18, Tryz.ntmps18
    go_upto_region 1 with fail
    generalize (w.alloc _).alloc _ = w2 at *
    obtain ⟨x0, x1, x2, x3, _⟩ := blk4 Z1
    obtain ⟨y0, y1, y2, y3, y4, y5, y6, yf⟩ := blk7 Z2
    go_wp2_with fail
    refine (W6 _).mono ?_
    rintro e w3 ⟨rfl, rfl⟩
    clear W6
    have n4 := newS w3 (.cells #[.string ⟨#[112, 114, 105, 110, 99, 105, 112, 97, 108]⟩, .string ⟨#[97, 99, 116, 105, 111, 110]⟩, .string ⟨#[114, 101, 115, 111, 117, 114, 99, 101]⟩] 9)
    have Z4 : (w3.alloc (.cells #[.string ⟨#[112, 114, 105, 110, 99, 105, 112, 97, 108]⟩, .string ⟨#[97, 99, 116, 105, 111, 110]⟩, .string ⟨#[114, 101, 115, 111, 117, 114, 99, 101]⟩] 9)).heap[w3.heap.size]? = some (.cells #[.string ⟨#[112, 114, 105, 110, 99, 105, 112, 97, 108]⟩, .string ⟨#[97, 99, 116, 105, 111, 110]⟩, .string ⟨#[114, 101, 115, 111, 117, 114, 99, 101]⟩] 9 (0, 0)) := alloc_heap _ _
    have c4 : (w3.alloc (.cells #[.string ⟨#[112, 114, 105, 110, 99, 105, 112, 97, 108]⟩, .string ⟨#[97, 99, 116, 105, 111, 110]⟩, .string ⟨#[114, 101, 115, 111, 117, 114, 99, 101]⟩] 9)).cell? ⟨w3.heap.size, m, none⟩ = some (.string X) := by rw [Lib.cell_of_heap Z4]; exact hcell
    have b04 := b2.trans (n4.mono b2.size)
    have Z1' := kept_of_below n4 Z1
    have Z2' := kept_of_below n4 Z2
    have hlt1 := (Array.getElem?_eq_some_iff.1 Z2).1
    have hlt0 : w.heap.size < w3.heap.size := by omega
    obtain ⟨x0', x1', x2', x3', _⟩ := blk4 Z1'
    go_wp2_with fail
    generalize w3.alloc _ = w4 at *
    refine (W3 _).mono ?_
    rintro e w5 ⟨rfl, rfl⟩
    clear W3 x0 x1 x2 x3 y0 y1 y2 y3 y4 y5 y6 yf
    obtain ⟨y0, y1, y2, y3, y4, y5, y6, yf⟩ := blk7 Z2'
    go_wp2
    exact bodyPost_ret (v := R7.val _) (by simp [results, Tryz.results18, go_sem, y0, y1, y2, y3, y4, y5, y6, R7.val]) rfl ⟨rfl, set7S_below b04 (Nat.le_succ _) _ _ _ _ _ _ _⟩
  · rw [hk] at W6 ⊢
    have hv : leafR 5 r.n s = ⟨6, false, 0, ⟨#[]⟩, ⟨#[]⟩, ⟨#[]⟩, none, 0, 0⟩ := rfl
    rw [hv]
    clear hv hk
    go_enter Tryz.func18, Tryz.ntmps18
    go_upto_region 1 with fail
    generalize (w.alloc _).alloc _ = w2 at *
    obtain ⟨x0, x1, x2, x3, _⟩ := blk4 Z1
    obtain ⟨y0, y1, y2, y3, y4, y5, y6, yf⟩ := blk7 Z2
    go_wp2_with fail
    refine (W6 _).mono ?_
    rintro e w3 ⟨rfl, rfl⟩
    clear W6
    go_wp2
    exact bodyPost_ret (v := R7.val _) (by simp [results, Tryz.results18, go_sem, y0, y1, y2, y3, y4, y5, y6, R7.val]) rfl ⟨rfl, set7S_below b2 (Nat.le_succ _) _ _ _ _ _ _ _⟩
end Go.Proofs.YtacljmckohbjaaaGreat

namespace Go.Proofs.YtacljmckohbjaaaGreat
open Go.RowKit Go.Sort

def exObj (k : Int) (S : ByteArray) (lv : Value) : Obj := .cells #[.int .i64 k, .bool false, .int .i64 0, .string S, .string ⟨#[]⟩, .string ⟨#[]⟩, lv] 42 (0, 0)
/-- What lies in memory while a node is made: the raw, the answer's cells, the node with its list lc, the row v. -/
structure RowInv (w w' : World) (raw ans : Obj) (k : Int) (S : ByteArray) (lc v : Value) (rs : List R7) (xs : List Ex) : Prop where
  below : Below w.heap.size w w'
  pr : w'.heap[w.heap.size]? = some raw
  pq : w'.heap[w.heap.size + 1]? = some ans
  pe : w'.heap[w.heap.size + 2]? = some (exObj k S lc)
  own : w'.ownsRow (w.heap.size + 3) 42 7 v rs.length (cellsE rs)
  all : AllE w' (fun b => w.heap.size + 3 ≤ b ∧ some b ≠ v.ownBlock) rs xs
theorem RowInv.base {w w' : World} {raw ans : Obj} {k : Int} {S : ByteArray} {lc v : Value} {rs : List R7} {xs : List Ex} (h : RowInv w w' raw ans k S lc v rs xs) : w.heap.size + 3 ≤ w'.heap.size := (Array.getElem?_eq_some_iff.1 h.pe).1
theorem ownX_slice {w : World} {B : Nat} {v : Value} {n : Nat} {xs : List Value} (h : w.ownsRow B 42 7 v n xs) : ∃ ao cap, v = .slice ao n cap := by
  rcases h.2 with ⟨h0, hz⟩ | ⟨g, cap, cur, hv, _⟩
  · exact ⟨none, 0, by rw [h0, hz]⟩
  · exact ⟨_, cap, hv⟩
theorem RowInv.row {w w' : World} {raw ans : Obj} {k : Int} {S : ByteArray} {lc v : Value} {rs : List R7} {xs : List Ex} (h : RowInv w w' raw ans k S lc v rs xs) : ∀ b, v.ownBlock = some b → w.heap.size + 3 ≤ b ∧ b < w'.heap.size := fun b e => h.own.lt b e

/-- The state of the region that makes one more kid and appends it. -/
structure TRw (w wr : World) (raw ans : Obj) (k : Int) (S : ByteArray) (lv : Value) (rs : List R7) (xs : List Ex) (X : Ex) (L : Nat → Bool) (a' : Act) (w' : World) : Prop where
  pre : L 15 = false → Below wr.heap.size wr w'
  k13 : L 13 = true → L 15 = false → ∃ q : R7, a'.tmps.getD 67 undef = q.val ∧ IsE w' (fun b => wr.heap.size ≤ b) q X
  k14 : L 14 = true → L 15 = false → ∃ (q : R7) (blk : Nat), a'.tmps.getD 68 undef = .slice (some ⟨blk, 0, none⟩) 1 1 ∧ wr.heap.size ≤ blk ∧ w'.heap[blk]? = some (.cells #[.int .i64 q.k, .bool q.b, .int .i64 q.n, .string q.s, .string q.t, .string q.i, .slice q.lo q.ll q.lc] 42 (0, 0)) ∧ IsE w' (fun b => wr.heap.size ≤ b) q X
  k15 : L 15 = true → L 17 = false → ∃ (v : Value) (q : R7), a'.tmps.getD 69 undef = v ∧ RowInv w w' raw ans k S lv v (rs ++ [q]) (xs ++ [X])
  k17 : L 17 = true → ∃ (v : Value) (q : R7), RowInv w w' raw ans k S v v (rs ++ [q]) (xs ++ [X])
  d14 : L 14 = true → L 13 = true
  d15 : L 15 = true → L 13 = true ∧ L 14 = true ∧ L 1 = true
  d17 : L 17 = true → L 15 = true

section
variable {w wr : World} {raw ans : Obj} {k : Int} {S : ByteArray} {lv : Value} {rs : List R7} {xs : List Ex} {X : Ex} {L : Nat → Bool} {a' : Act} {w' : World}
theorem TRw.start (a : Act) : TRw w wr raw ans k S lv rs xs X (fun _ => false) a wr.drew :=
  ⟨fun _ => (Below.refl _ wr).drew, fun h => (by cases h), fun h => (by cases h), fun h => (by cases h), fun h => (by cases h), fun h => (by cases h), fun h => (by cases h), fun h => (by cases h)⟩
theorem TRw.n17 (h : TRw w wr raw ans k S lv rs xs X L a' w') (hL : L 15 = false) : L 17 = false := by
  cases e : L 17 with
  | false => rfl
  | true => rw [h.d17 e] at hL; cases hL
theorem TRw.n15 (h : TRw w wr raw ans k S lv rs xs X L a' w') (hL : L 13 = false ∨ L 14 = false ∨ L 1 = false) : L 15 = false := by
  cases e : L 15 with
  | false => rfl
  | true =>
    obtain ⟨h1, h2, h3⟩ := h.d15 e
    rcases hL with hL | hL | hL
    · rw [h1] at hL; cases hL
    · rw [h2] at hL; cases hL
    · rw [h3] at hL; cases hL
theorem TRw.below (h : TRw w wr raw ans k S lv rs xs X L a' w') (h0 : RowInv w wr raw ans k S lv lv rs xs) : Below w.heap.size w w' ∧ w'.heap[w.heap.size]? = some raw := by
  cases e : L 15 with
  | false =>
    have hb := h.pre e
    exact ⟨h0.below.trans (hb.mono h0.below.size), kept_of_below hb h0.pr⟩
  | true =>
    cases e2 : L 17 with
    | false => obtain ⟨v, q, _, h2⟩ := h.k15 e e2; exact ⟨h2.below, h2.pr⟩
    | true => obtain ⟨v, q, h2⟩ := h.k17 e2; exact ⟨h2.below, h2.pr⟩
theorem TRw.other (h : TRw w wr raw ans k S lv rs xs X L a' w') (i d : Nat) (v : Value) (hi : i ≠ 13 ∧ i ≠ 14 ∧ i ≠ 15 ∧ i ≠ 17) (hd : d ≠ 67 ∧ d ≠ 68 ∧ d ≠ 69) : TRw w wr raw ans k S lv rs xs X (fun j => decide (j = i) || L j) (a'.put (some d) v) w' := by
  have e13 : (decide (13 = i) || L 13) = L 13 := by rw [decide_eq_false (fun e => hi.1 e.symm)]; rfl
  have e14 : (decide (14 = i) || L 14) = L 14 := by rw [decide_eq_false (fun e => hi.2.1 e.symm)]; rfl
  have e15 : (decide (15 = i) || L 15) = L 15 := by rw [decide_eq_false (fun e => hi.2.2.1 e.symm)]; rfl
  have e17 : (decide (17 = i) || L 17) = L 17 := by rw [decide_eq_false (fun e => hi.2.2.2 e.symm)]; rfl
  refine ⟨?_, ?_, ?_, ?_, ?_, ?_, ?_, ?_⟩ <;> simp only [e13, e14, e15, e17, put_other _ _ _ _ hd.1, put_other _ _ _ _ hd.2.1, put_other _ _ _ _ hd.2.2]
  · exact h.pre
  · exact h.k13
  · exact h.k14
  · exact h.k15
  · exact h.k17
  · exact h.d14
  · exact fun e => ⟨(h.d15 e).1, (h.d15 e).2.1, by rw [(h.d15 e).2.2]; simp⟩
  · exact h.d17
theorem TRw.call (h : TRw w wr raw ans k S lv rs xs X L a' w') (hL : L 13 = false) (hs : 67 < a'.tmps.size) {w'' : World} {q : R7} (hb : Below w'.heap.size w' w'') (hq : IsE w'' (fun b => w'.heap.size ≤ b) q X) : TRw w wr raw ans k S lv rs xs X (fun j => decide (j = 13) || L j) (a'.put (some 67) q.val) w'' := by
  have n15 := h.n15 (.inl hL)
  have n17 := h.n17 n15
  have n14 : L 14 = false := by
    cases e : L 14 with
    | false => rfl
    | true => rw [h.d14 e] at hL; cases hL
  have hp := h.pre n15
  refine ⟨fun _ => hp.trans (hb.mono hp.size), fun _ _ => ⟨q, put_same _ _ _ hs, ?_⟩, fun e _ => ?_, fun e => ?_, fun e => ?_, fun _ => by simp, fun e => ?_, fun e => ?_⟩
  · exact IsE.turn (Nat.le_refl _) (fun b hb' _ => ⟨rfl, Nat.le_trans hp.size hb'⟩) q X hq
  · simp [n14] at e
  · simp [n15] at e
  · simp [n17] at e
  · simp [n15] at e
  · simp [n17] at e
theorem TRw.build (h : TRw w wr raw ans k S lv rs xs X L a' w') (hL : L 14 = false) (h13 : L 13 = true) (hs : 68 < a'.tmps.size) {q : R7} (hq0 : a'.tmps.getD 67 undef = q.val) (hq : IsE w' (fun b => wr.heap.size ≤ b) q X) :
    TRw w wr raw ans k S lv rs xs X (fun j => decide (j = 14) || L j) (a'.put (some 68) (.slice (some ⟨w'.heap.size, 0, none⟩) 1 1)) (w'.alloc (.cells #[.int .i64 q.k, .bool q.b, .int .i64 q.n, .string q.s, .string q.t, .string q.i, .slice q.lo q.ll q.lc] 42)) := by
  have n15 := h.n15 (.inr (.inl hL))
  have n17 := h.n17 n15
  have hp := h.pre n15
  have n := newS w' (.cells #[.int .i64 q.k, .bool q.b, .int .i64 q.n, .string q.s, .string q.t, .string q.i, .slice q.lo q.ll q.lc] 42)
  have hq' := IsE.turn n.size (fun b hb' hb2 => ⟨n.block b hb2, hb'⟩) q X hq
  refine ⟨fun _ => hp.trans (n.mono hp.size), fun _ _ => ⟨q, by rw [put_other _ _ _ _ (by decide)]; exact hq0, hq'⟩, fun _ _ => ⟨q, w'.heap.size, put_same _ _ _ hs, hp.size, alloc_heap _ _, hq'⟩, fun e => ?_, fun e => ?_, fun _ => by simp [h13], fun e => ?_, fun e => ?_⟩
  · simp [n15] at e
  · simp [n17] at e
  · simp [n15] at e
  · simp [n17] at e
theorem TRw.app (h0 : RowInv w wr raw ans k S lv lv rs xs) (h : TRw w wr raw ans k S lv rs xs X L a' w') (hL : L 15 = false) (h13 : L 13 = true) (h14 : L 14 = true) (h1 : L 1 = true) (hs : 69 < a'.tmps.size) {q : R7} (hq : IsE w' (fun b => wr.heap.size ≤ b) q X)
    {v : Value} {w'' : World} (hown : w''.ownsRow (w.heap.size + 3) 42 7 v (rs.length + 1) (cellsE rs ++ q.cells)) (hg : w'.grownBy w'' lv.ownBlock) (hat : v.ownBlock = lv.ownBlock ∨ v.ownBlock = some w'.heap.size) :
    TRw w wr raw ans k S lv rs xs X (fun j => decide (j = 15) || L j) (a'.put (some 69) v) w'' := by
  have n17 := h.n17 hL
  have hp := h.pre hL
  have hbase := h0.base
  have hsz := hp.size
  have hrow := h0.row
  have hsame : ∀ b, b < w'.heap.size → lv.ownBlock ≠ some b → w''.heap[b]? = w'.heap[b]? := fun b hb hne => hg.block b hb (fun e => hne e.symm)
  have hold : ∀ b, b < w.heap.size + 3 → w''.heap[b]? = wr.heap[b]? := fun b hb => by
    rw [hsame b (by omega) (fun e => by have := (hrow b e).1; omega)]
    exact hp.block b (by omega)
  have hne : ∀ b, b < w'.heap.size → lv.ownBlock ≠ some b → some b ≠ v.ownBlock := by
    intro b hb hbg e
    rcases hat with h1 | h1
    · rw [h1] at e
      exact hbg e.symm
    · rw [h1] at e
      have hb3 := Option.some.inj e
      omega
  have hinv : RowInv w w'' raw ans k S lv v (rs ++ [q]) (xs ++ [X]) := by
    refine ⟨?_, (hold _ (by omega)).trans h0.pr, (hold _ (by omega)).trans h0.pq, (hold _ (by omega)).trans h0.pe, ?_, .snoc ?_ ?_⟩
    · have hb := h0.below.trans (hp.mono h0.below.size)
      exact hb.grown hg hb.size (fun b e => by have := (hrow b e).1; omega)
    · rw [cellsE_snoc, List.length_append]
      exact hown
    · refine AllE.turn (by have := hg.size; omega) (fun b hb hb2 => ?_) h0.all
      have hnb : lv.ownBlock ≠ some b := fun e => hb.2 e.symm
      exact ⟨(hsame b (by omega) hnb).trans (hp.block b hb2), hb.1, hne b (by omega) hnb⟩
    · refine IsE.turn hg.size (fun b hb hb2 => ?_) q X hq
      have hnb : lv.ownBlock ≠ some b := fun e => by have := (hrow b e).2; omega
      exact ⟨hsame b hb2 hnb, by omega, hne b hb2 hnb⟩
  refine ⟨fun e => ?_, fun _ e => ?_, fun _ e => ?_, fun _ _ => ⟨v, q, put_same _ _ _ hs, hinv⟩, fun e => ?_, fun _ => by simp [h13], fun _ => by simp [h13, h14, h1], fun e => ?_⟩
  · simp at e
  · simp at e
  · simp at e
  · simp [n17] at e
  · simp [n17] at e
theorem TRw.store (h : TRw w wr raw ans k S lv rs xs X L a' w') (h15 : L 15 = true) (hL : L 17 = false) {v : Value} (hv : a'.tmps.getD 69 undef = v) : TRw w wr raw ans k S lv rs xs X (fun j => decide (j = 17) || L j) a' (w'.setCell ⟨w.heap.size + 2, 6, none⟩ v) := by
  obtain ⟨v', q, hv', hi⟩ := h.k15 h15 hL
  rw [hv] at hv'
  subst hv'
  have hbase := hi.base
  have hold : ∀ b, b ≠ w.heap.size + 2 → (w'.setCell ⟨w.heap.size + 2, 6, none⟩ v).heap[b]? = w'.heap[b]? := fun b hb => Below.heap_setCell _ _ _ _ hb
  have hinv : RowInv w (w'.setCell ⟨w.heap.size + 2, 6, none⟩ v) raw ans k S v v (rs ++ [q]) (xs ++ [X]) := by
    refine ⟨hi.below.setCell (p := ⟨w.heap.size + 2, 6, none⟩) (by show w.heap.size ≤ w.heap.size + 2; omega) _, (hold _ (by omega)).trans hi.pr, (hold _ (by omega)).trans hi.pq, ?_, ?_, ?_⟩
    · have := hi.pe
      unfold exObj at this ⊢
      simp [World.setCell, Array.getElem?_modify, this]
    · refine ⟨hi.own.1, ?_⟩
      rcases hi.own.2 with h0 | ⟨g, cap, cur, hv, hbg, hg, rest⟩
      · exact .inl h0
      · exact .inr ⟨g, cap, cur, hv, hbg, (hold g (by omega)).trans hg, rest⟩
    · exact AllE.turn (by simp [World.setCell]) (fun b hb hb2 => ⟨hold b (by omega), hb⟩) hi.all
  refine ⟨fun e => ?_, fun _ e => ?_, fun _ e => ?_, fun _ e => ?_, fun _ => ⟨v, q, hinv⟩, fun _ => ?_, fun _ => ?_, fun _ => by simp [h15]⟩
  · simp [h15] at e
  · simp [h15] at e
  · simp [h15] at e
  · simp at e
  · have := h.d15 h15
    simp [this.1]
  · have := h.d15 h15
    simp [this.1, this.2.1, this.2.2]
end
end Go.Proofs.YtacljmckohbjaaaGreat

namespace Go.Proofs.YtacljmckohbjaaaGreat
open Go.RowKit Go.Sort

/-- How many kids the law gives an operation. -/
def arN (k : Int) (n : Nat) : Nat := if k = 6 then min n 8 else if k = 7 ∨ k = 8 ∨ k = 10 ∨ k = 11 ∨ k = 12 then 1 else if k = 25 then 3 else 2
def arS (k n : Int) (s : List Int) : List UInt8 := if k = 7 ∨ k = 8 then nmI n else if k = 10 then idt5 s else []
/-- A tree, as the law makes it. -/
def treeX : Nat → Rw → Ex
  | 0, .mk op n s _ => leafX (op % 6) n s
  | d + 1, .mk op n s l => if d = 0 ∨ l.length = 0 then leafX (op % 6) n s else
      .mk (6 + op % 20) false 0 (arS (6 + op % 20) n s) [] [] ((List.range (arN (6 + op % 20) l.length)).map fun i => treeX d (l.getD (i % l.length) (.mk 0 0 [] [])))

def kidsX (d : Nat) (l : List Rw) (j : Nat) : List Ex := (List.range j).map fun i => treeX d (l.getD (i % l.length) (.mk 0 0 [] []))
theorem kidsX_succ (d : Nat) (l : List Rw) (j : Nat) (h : j % l.length < l.length) : kidsX d l (j + 1) = kidsX d l j ++ [treeX d l[j % l.length]] := by
  unfold kidsX
  rw [List.range_succ, List.map_append, List.map_cons, List.map_nil]
  rw [show l.getD (j % l.length) (.mk 0 0 [] []) = l[j % l.length] by rw [List.getD, List.getElem?_eq_getElem h]; rfl]

set_option maxHeartbeats 4000000 in
set_option maxRecDepth 1000000 in
theorem tree_leaf (d : Nat) (op n : Int) (s : List Int) (l : List Rw) (r : R4) (w : World) (hx : IsR w r (.mk op n s l)) (hd : d ≤ 1000) (hc : d ≤ 1 ∨ l.length = 0) :
    Calls Tryz.prog 8 #[r.val, .int .i64 d] w fun e w' => ∃ q : R7, e = .returned q.val ∧ Below w.heap.size w w' ∧ IsE w' (fun b => w.heap.size ≤ b) q (leafX (op % 6) n s) := by
  unfold IsR at hx
  obtain ⟨rfl, rfl, hsl, hs1, hs2, hz, hll, hl1, hks⟩ := hx
  have b2 := below2 w (.cells #[.int .i64 r.op, .int .i64 r.n, .slice r.so r.sl r.sc, .slice r.lo r.ll r.lc] 26) (.cells #[.int .i64 0, .bool false, .int .i64 0, .string ⟨#[]⟩, .string ⟨#[]⟩, .string ⟨#[]⟩, .slice none 0 0] 42)
  have Z1 : ((w.alloc (.cells #[.int .i64 r.op, .int .i64 r.n, .slice r.so r.sl r.sc, .slice r.lo r.ll r.lc] 26)).alloc (.cells #[.int .i64 0, .bool false, .int .i64 0, .string ⟨#[]⟩, .string ⟨#[]⟩, .string ⟨#[]⟩, .slice none 0 0] 42)).heap[w.heap.size]? = some (.cells #[.int .i64 r.op, .int .i64 r.n, .slice r.so r.sl r.sc, .slice r.lo r.ll r.lc] 26 (0, 0)) := kept_of_below (newS _ _) (alloc_heap _ _)
  have Z2 : ((w.alloc (.cells #[.int .i64 r.op, .int .i64 r.n, .slice r.so r.sl r.sc, .slice r.lo r.ll r.lc] 26)).alloc (.cells #[.int .i64 0, .bool false, .int .i64 0, .string ⟨#[]⟩, .string ⟨#[]⟩, .string ⟨#[]⟩, .slice none 0 0] 42)).heap[w.heap.size + 1]? = some (.cells #[.int .i64 0, .bool false, .int .i64 0, .string ⟨#[]⟩, .string ⟨#[]⟩, .string ⟨#[]⟩, .slice none 0 0] 42 (0, 0)) := by
    have h := alloc_heap (w.alloc (.cells #[.int .i64 r.op, .int .i64 r.n, .slice r.so r.sl r.sc, .slice r.lo r.ll r.lc] 26)) (.cells #[.int .i64 0, .bool false, .int .i64 0, .string ⟨#[]⟩, .string ⟨#[]⟩, .string ⟨#[]⟩, .slice none 0 0] 42)
    rw [show (w.alloc (.cells #[.int .i64 r.op, .int .i64 r.n, .slice r.so r.sl r.sc, .slice r.lo r.ll r.lc] 26)).heap.size = w.heap.size + 1 by simp] at h
    exact h
  have LF := leaf5_any r s _ hs1 hsl hs2 (hz.below b2)
  have HI := hide (fun w' => leaf_is (r.op % 6) r.n s w' (fun b => w.heap.size ≤ b))
  generalize leafR (r.op % 6) r.n s = q at *
  generalize leafX (r.op % 6) r.n s = X at *
  rw [hll] at b2 Z1 Z2 LF
  unfold R4.val at LF ⊢
  rw [hll] at LF ⊢
  generalize l.length = ln at *
  clear hz hks hll hsl hs1 hs2
  by_cases h1 : d ≤ 1
  · have i1 : (d : Int) ≤ 1 := by omega
    clear hc
    go_enter Tryz.func8, Tryz.ntmps8
    go_upto_region 1 with fail
    generalize (w.alloc _).alloc _ = w2 at *
    obtain ⟨x0, x1, x2, x3, _⟩ := blk4 Z1
    go_wp2_with fail
    refine LF.mono ?_
    rintro e w3 ⟨rfl, b3⟩
    have b03 := b2.trans (b3.mono b2.size)
    obtain ⟨y0, y1, y2, y3, y4, y5, y6, yf⟩ := blk7 (kept_of_below b3 Z2)
    clear x0 x1 x2 x3 LF
    unfold R7.val
    go_wp2
    exact bodyPost_ret (v := R7.val q) (by simp [results, Tryz.results8, go_sem, y0, y1, y2, y3, y4, y5, y6, R7.val]) rfl ⟨q, rfl, set7S_below b03 (Nat.le_succ _) _ _ _ _ _ _ _, unhide HI _⟩
  · have h0 : ln = 0 := hc.resolve_left h1
    subst h0
    have i1 : ¬ (d : Int) ≤ 1 := by omega
    clear hc
    go_enter Tryz.func8, Tryz.ntmps8
    go_upto_region 1 with fail
    generalize (w.alloc _).alloc _ = w2 at *
    obtain ⟨x0, x1, x2, x3, _⟩ := blk4 Z1
    go_wp2_with fail
    refine LF.mono ?_
    rintro e w3 ⟨rfl, b3⟩
    have b03 := b2.trans (b3.mono b2.size)
    obtain ⟨y0, y1, y2, y3, y4, y5, y6, yf⟩ := blk7 (kept_of_below b3 Z2)
    clear x0 x1 x2 x3 LF
    unfold R7.val
    go_wp2
    exact bodyPost_ret (v := R7.val q) (by simp [results, Tryz.results8, go_sem, y0, y1, y2, y3, y4, y5, y6, R7.val]) rfl ⟨q, rfl, set7S_below b03 (Nat.le_succ _) _ _ _ _ _ _ _, unhide HI _⟩
end Go.Proofs.YtacljmckohbjaaaGreat

namespace Go.Proofs.YtacljmckohbjaaaGreat
open Go.RowKit Go.Sort

/-- What each slot of the region holds. -/
def trSp (pr pe j d m g off : Nat) (lv kv : Value) (rk : R4) (ln : Nat) : Nat → Value → World → Prop
  | 0, v, _ => v = .pointer (some ⟨pe, 6, none⟩)
  | 1, v, _ => v = lv
  | 2, v, _ => v = .pointer (some ⟨pr, 3, none⟩)
  | 3, v, _ => v = kv
  | 4, v, _ => v = .int .i64 j
  | 5, v, _ => v = .pointer (some ⟨pr, 3, none⟩)
  | 6, v, _ => v = kv
  | 7, v, _ => v = .int .i64 ln
  | 8, v, _ => v = .int .i64 m
  | 9, v, _ => v = .pointer (some ⟨g, off + m * 4, none⟩)
  | 10, v, _ => v = rk.val
  | 11, v, _ => v = .int .i64 ((d : Int) + 1)
  | 12, v, _ => v = .int .i64 d
  | 16, v, _ => v = .pointer (some ⟨pe, 6, none⟩)
  | _, _, _ => True

theorem trSp_up {pr pe j d m g off : Nat} {lv kv : Value} {rk : R4} {ln : Nat} {w w' : World} : ∀ i u, trSp pr pe j d m g off lv kv rk ln i u w → trSp pr pe j d m g off lv kv rk ln i u w' := by
  intro i u h
  unfold trSp at h ⊢
  split at h <;> first | exact h | trivial
theorem nodeEnd {w wr : World} {raw ans : Obj} {k : Int} {S : List UInt8} {lv : Value} {rs : List R7} {xs : List Ex} (h : RowInv w wr raw ans k (ba S) lv lv rs xs) (hp : 0 < rs.length) (v0 v1 v2 v3 v4 v5 v6 : Value) :
    ∃ (g cap : Nat), lv = .slice (some ⟨g, 0, none⟩) rs.length cap ∧ IsE (set7S wr (w.heap.size + 1) v0 v1 v2 v3 v4 v5 v6) (fun b => w.heap.size ≤ b) ⟨k, false, 0, ba S, ⟨#[]⟩, ⟨#[]⟩, some ⟨g, 0, none⟩, rs.length, cap⟩ (.mk k false 0 S [] [] xs) := by
  obtain ⟨g, cap, e, hB, hg, hrow⟩ := ownsE_at h.own hp
  refine ⟨g, cap, e, ?_⟩
  have hz := set7S_size wr (w.heap.size + 1) v0 v1 v2 v3 v4 v5 v6
  have hall := AllE.turn (w' := set7S wr (w.heap.size + 1) v0 v1 v2 v3 v4 v5 v6) (P' := fun b => w.heap.size ≤ b) (by rw [hz]; exact Nat.le_refl _) (fun b hb _ => ⟨set7S_heap _ _ _ _ _ _ _ _ _ _ (by omega), by omega⟩) h.all
  unfold IsE
  refine ⟨rfl, rfl, rfl, rfl, rfl, rfl, h.all.len, hall.row (by omega) (by rw [hz]; exact hg) fun j hj => (hrow j hj).same (set7S_heap _ _ _ _ _ _ _ _ _ _ (by omega))⟩

set_option maxHeartbeats 4000000 in
set_option maxRecDepth 1000000 in
theorem tree_two (d : Nat) (op n : Int) (s : List Int) (l : List Rw) (r : R4) (w : World) (hx : IsR w r (.mk op n s l)) (hd : d ≤ 1000) (hd1 : 1 ≤ d) (hl0 : 0 < l.length)
    (ih : ∀ (x : Rw) (r : R4) (w : World), IsR w r x → Calls Tryz.prog 8 #[r.val, .int .i64 d] w fun e w' => ∃ q : R7, e = .returned q.val ∧ Below w.heap.size w w' ∧ IsE w' (fun b => w.heap.size ≤ b) q (treeX d x)) (hk2 : 6 + op % 20 = 9 ∨ (13 ≤ 6 + op % 20 ∧ 6 + op % 20 ≤ 24)) :
    Calls Tryz.prog 8 #[r.val, .int .i64 (d + 1 : Nat)] w fun e w' => ∃ q : R7, e = .returned q.val ∧ Below w.heap.size w w' ∧ IsE w' (fun b => w.heap.size ≤ b) q (.mk (6 + op % 20) false 0 [] [] [] (kidsX d l 2)) := by
  unfold IsR at hx
  obtain ⟨rfl, rfl, hsl, hs1, hs2, hz, hll, hl1, hks⟩ := hx
  have b2 := below2 w (.cells #[.int .i64 r.op, .int .i64 r.n, .slice r.so r.sl r.sc, .slice r.lo r.ll r.lc] 26) (.cells #[.int .i64 0, .bool false, .int .i64 0, .string ⟨#[]⟩, .string ⟨#[]⟩, .string ⟨#[]⟩, .slice none 0 0] 42)
  have Z1 : ((w.alloc (.cells #[.int .i64 r.op, .int .i64 r.n, .slice r.so r.sl r.sc, .slice r.lo r.ll r.lc] 26)).alloc (.cells #[.int .i64 0, .bool false, .int .i64 0, .string ⟨#[]⟩, .string ⟨#[]⟩, .string ⟨#[]⟩, .slice none 0 0] 42)).heap[w.heap.size]? = some (.cells #[.int .i64 r.op, .int .i64 r.n, .slice r.so r.sl r.sc, .slice r.lo r.ll r.lc] 26 (0, 0)) := kept_of_below (newS _ _) (alloc_heap _ _)
  have z2 : ((w.alloc (.cells #[.int .i64 r.op, .int .i64 r.n, .slice r.so r.sl r.sc, .slice r.lo r.ll r.lc] 26)).alloc (.cells #[.int .i64 0, .bool false, .int .i64 0, .string ⟨#[]⟩, .string ⟨#[]⟩, .string ⟨#[]⟩, .slice none 0 0] 42)).heap.size = w.heap.size + 2 := by simp
  have Z2 : ((w.alloc (.cells #[.int .i64 r.op, .int .i64 r.n, .slice r.so r.sl r.sc, .slice r.lo r.ll r.lc] 26)).alloc (.cells #[.int .i64 0, .bool false, .int .i64 0, .string ⟨#[]⟩, .string ⟨#[]⟩, .string ⟨#[]⟩, .slice none 0 0] 42)).heap[w.heap.size + 1]? = some (.cells #[.int .i64 0, .bool false, .int .i64 0, .string ⟨#[]⟩, .string ⟨#[]⟩, .string ⟨#[]⟩, .slice none 0 0] 42 (0, 0)) := by
    have h := alloc_heap (w.alloc (.cells #[.int .i64 r.op, .int .i64 r.n, .slice r.so r.sl r.sc, .slice r.lo r.ll r.lc] 26)) (.cells #[.int .i64 0, .bool false, .int .i64 0, .string ⟨#[]⟩, .string ⟨#[]⟩, .string ⟨#[]⟩, .slice none 0 0] 42)
    rw [show (w.alloc (.cells #[.int .i64 r.op, .int .i64 r.n, .slice r.so r.sl r.sc, .slice r.lo r.ll r.lc] 26)).heap.size = w.heap.size + 1 by simp] at h
    exact h
  have W20 := fun w' => within5_any r.op 20 (by decide) (by decide) w'
  obtain ⟨k, hk⟩ : ∃ k : Int, k = 6 + r.op % 20 := ⟨_, rfl⟩
  have hk0 : r.op % 20 = k - 6 := by omega
  rw [← hk] at hk2 ⊢
  rw [hk0] at W20
  have c6 : ¬ k = 6 := by omega
  have c7 : ¬ k = 7 := by omega
  have c8 : ¬ k = 8 := by omega
  have c10 : ¬ k = 10 := by omega
  have c11 : ¬ k = 11 := by omega
  have c12 : ¬ k = 12 := by omega
  have c25 : ¬ k = 25 := by omega
  have kb : 6 ≤ k ∧ k ≤ 25 := by omega
  have q6 : 6 + (k - 6) = k := by omega
  rw [hll] at b2 Z1 Z2 z2
  unfold R4.val at ih ⊢
  rw [hll]
  have HIH := hide ih
  have HKS := hide hks
  have HZ2 := hide z2
  clear hz hks hll hs1 hs2 hk hk0 hk2 ih z2 hsl
  have i1 : ¬ ((d + 1 : Nat) : Int) ≤ 1 := by omega
  have i2 : ((l.length : Int) == 0) = false := beq_false_of_ne (by omega)
  generalize hln : l.length = ln at *
  have HLN := hide hln
  clear hln
  go_enter Tryz.func8, Tryz.ntmps8
  go_upto_region 1 with fail
  generalize (w.alloc _).alloc _ = w2 at *
  obtain ⟨x0, x1, x2, x3, _⟩ := blk4 Z1
  go_wp2_with fail
  refine (W20 _).mono ?_
  rintro e w3 ⟨rfl, rfl⟩
  clear W20
  go_upto_region 4 with fail
  rw [unhide HZ2]
  have n4 := newS w3 (.cells #[.int .i64 k, .bool false, .int .i64 0, .string ⟨#[]⟩, .string ⟨#[]⟩, .string ⟨#[]⟩, .slice none 0 0] 42)
  have Z4 : (w3.alloc (.cells #[.int .i64 k, .bool false, .int .i64 0, .string ⟨#[]⟩, .string ⟨#[]⟩, .string ⟨#[]⟩, .slice none 0 0] 42)).heap[w.heap.size + 2]? = some (.cells #[.int .i64 k, .bool false, .int .i64 0, .string ⟨#[]⟩, .string ⟨#[]⟩, .string ⟨#[]⟩, .slice none 0 0] 42 (0, 0)) := by
    have h := alloc_heap w3 (.cells #[.int .i64 k, .bool false, .int .i64 0, .string ⟨#[]⟩, .string ⟨#[]⟩, .string ⟨#[]⟩, .slice none 0 0] 42)
    rw [unhide HZ2] at h
    exact h
  have INV : RowInv w (w3.alloc (.cells #[.int .i64 k, .bool false, .int .i64 0, .string ⟨#[]⟩, .string ⟨#[]⟩, .string ⟨#[]⟩, .slice none 0 0] 42)) (.cells #[.int .i64 r.op, .int .i64 r.n, .slice r.so r.sl r.sc, .slice r.lo ln r.lc] 26 (0, 0)) (.cells #[.int .i64 0, .bool false, .int .i64 0, .string ⟨#[]⟩, .string ⟨#[]⟩, .string ⟨#[]⟩, .slice none 0 0] 42 (0, 0)) k ⟨#[]⟩ (.slice none 0 0) (.slice none 0 0) [] [] :=
    ⟨b2.trans (n4.mono b2.size), kept_of_below n4 Z1, kept_of_below n4 Z2, Z4, World.ownsRow_nil _ _ _ _, .nil⟩
  generalize w3.alloc _ = w4 at *
  clear x0 x1 x2 x3 Z1 Z2 n4 b2
  obtain ⟨y0, y1, y2, y3, y4, y5, y6, _⟩ := blk7 Z4
  go_wp2_with fail
  clear y0 y1 y2 y3 y4 y5 y6 Z4 c6 c7 c8 c10 c11 c12 c25
  go_loopw [7] (fun iv wr => ∃ (j : Nat) (lv : Value) (rs : List R7), j ≤ 2 ∧ iv = .int .i64 j ∧ rs.length = j ∧ RowInv w wr (.cells #[.int .i64 r.op, .int .i64 r.n, .slice r.so r.sl r.sc, .slice r.lo ln r.lc] 26 (0, 0)) (.cells #[.int .i64 0, .bool false, .int .i64 0, .string ⟨#[]⟩, .string ⟨#[]⟩, .string ⟨#[]⟩, .slice none 0 0] 42 (0, 0)) k ⟨#[]⟩ lv lv rs (kidsX d l j)) (fun iv _ => 2 - (intOf iv).toNat)
  case atStart => exact ⟨0, .slice none 0 0, [], Nat.zero_le _, rfl, rfl, INV⟩
  case round =>
    obtain ⟨j, lv, rs, hj, rfl, hrs, H⟩ := hrel
    by_cases hlt : j < 2
    · have i4 : (j : Int) < 2 := by omega
      have hml : j % l.length < l.length := Nat.mod_lt _ (by rw [unhide HLN]; exact hl0)
      obtain ⟨rk, g, off, hlo, hg, h7, hxk⟩ := IsRs.get l 0 (j % l.length) hml (unhide HKS)
      rw [Nat.zero_add] at h7
      have HKX := hide (kidsX_succ d l j hml)
      have CK := fun w' (hb : Below w.heap.size w w') => unhide HIH l[j % l.length] rk w' (IsR.below hb rk _ hxk)
      generalize treeX d l[j % l.length] = X at *
      obtain ⟨m, hm⟩ : ∃ m : Nat, m = j % l.length := ⟨_, rfl⟩
      have hmln : m < ln := by rw [hm, ← unhide HLN]; exact hml
      have hmod : (j : Int).tmod (ln : Int) = (m : Int) := by rw [hm, unhide HLN]; rfl
      rw [← hm] at h7
      generalize kidsX d l j = xs at *
      obtain ⟨lao, lcap, hlv⟩ := ownX_slice H.own
      have hi0 := info_parts infoExpr
      obtain ⟨i0, hi, hz0, hz1, hz2⟩ := hi0
      have HH := hide H
      have HLO := hide hlo
      have HLV := hide hlv
      clear hlo hlv
      have hbase := H.base
      have hrl : rs.length ≤ 8 := by omega
      have HRS := hide hrs
      clear hxk hml hm hrs H
      go_upto_region 21 with fail
      refine wp_specsB 17 (trSp w.heap.size (w.heap.size + 2) j d m g off lv (.slice r.lo ln r.lc) rk ln) (TRw w wr (.cells #[.int .i64 r.op, .int .i64 r.n, .slice r.so r.sl r.sc, .slice r.lo ln r.lc] 26 (0, 0)) (.cells #[.int .i64 0, .bool false, .int .i64 0, .string ⟨#[]⟩, .string ⟨#[]⟩, .string ⟨#[]⟩, .slice none 0 0] 42 (0, 0)) k ⟨#[]⟩ lv rs xs X) (by kernel_rfl) (by kernel_rfl) (by kernel_rfl) (TRw.start _) ?_ ?_ ?_
      · intro i o hi' ho L a' w' hL hw hR hdep hslot hsz K hK
        obtain ⟨hbw, hpr⟩ := hR.below (unhide HH)
        match i, hi' with
        | 0, _ =>
          cases ho
          have e : a'.tmps.getD 5 undef = .pointer (some ⟨w.heap.size + 2, 0, none⟩) := hslot 5 (by decide)
          unfold Oper.wp
          go_simp
          exact hK _ _ rfl (hR.other 0 54 _ (by decide) (by decide)) (fun _ _ h => h)
        | 1, _ =>
          cases ho
          have e : a'.tmps.getD 54 undef = .pointer (some ⟨w.heap.size + 2, 6, none⟩) := hdep 0 (by decide) (by kernel_rfl)
          have hp := hR.pre (hR.n15 (.inr (.inr hL)))
          have hpe := kept_of_below hp (unhide HH).pe
          unfold exObj at hpe
          obtain ⟨_, _, _, _, _, _, c6', _⟩ := blk7 hpe
          unfold Oper.wp
          go_simp
          exact hK _ _ rfl (hR.other 1 55 _ (by decide) (by decide)) (fun _ _ h => h)
        | 2, _ =>
          cases ho
          have e : a'.tmps.getD 2 undef = .pointer (some ⟨w.heap.size, 0, none⟩) := hslot 2 (by decide)
          unfold Oper.wp
          go_simp
          exact hK _ _ rfl (hR.other 2 56 _ (by decide) (by decide)) (fun _ _ h => h)
        | 3, _ =>
          cases ho
          have e : a'.tmps.getD 56 undef = .pointer (some ⟨w.heap.size, 3, none⟩) := hdep 2 (by decide) (by kernel_rfl)
          obtain ⟨_, _, _, c3', _⟩ := blk4 hpr
          unfold Oper.wp
          go_simp
          exact hK _ _ rfl (hR.other 3 57 _ (by decide) (by decide)) (fun _ _ h => h)
        | 4, _ =>
          cases ho
          have e : a'.tmps.getD 7 undef = .int .i64 j := hslot 7 (by decide)
          unfold Oper.wp
          go_simp
          exact hK _ _ rfl (hR.other 4 58 _ (by decide) (by decide)) (fun _ _ h => h)
        | 5, _ =>
          cases ho
          have e : a'.tmps.getD 2 undef = .pointer (some ⟨w.heap.size, 0, none⟩) := hslot 2 (by decide)
          unfold Oper.wp
          go_simp
          exact hK _ _ rfl (hR.other 5 59 _ (by decide) (by decide)) (fun _ _ h => h)
        | 6, _ =>
          cases ho
          have e : a'.tmps.getD 59 undef = .pointer (some ⟨w.heap.size, 3, none⟩) := hdep 5 (by decide) (by kernel_rfl)
          obtain ⟨_, _, _, c3', _⟩ := blk4 hpr
          unfold Oper.wp
          go_simp
          exact hK _ _ rfl (hR.other 6 60 _ (by decide) (by decide)) (fun _ _ h => h)
        | 7, _ =>
          cases ho
          have e : a'.tmps.getD 60 undef = .slice r.lo ln r.lc := hdep 6 (by decide) (by kernel_rfl)
          unfold Oper.wp
          go_simp
          exact hK _ _ rfl (hR.other 7 61 _ (by decide) (by decide)) (fun _ _ h => h)
        | 8, _ =>
          cases ho
          have e1 : a'.tmps.getD 58 undef = .int .i64 j := hdep 4 (by decide) (by kernel_rfl)
          have e2 : a'.tmps.getD 61 undef = .int .i64 ln := hdep 7 (by decide) (by kernel_rfl)
          have n0 : ¬ ln = 0 := by omega
          unfold Oper.wp
          go_simp
          exact hK _ _ rfl (hR.other 8 62 _ (by decide) (by decide)) (fun _ _ h => h)
        | 9, _ =>
          cases ho
          have e1 : a'.tmps.getD 57 undef = .slice r.lo ln r.lc := hdep 3 (by decide) (by kernel_rfl)
          have e2 : a'.tmps.getD 62 undef = .int .i64 m := hdep 8 (by decide) (by kernel_rfl)
          rw [unhide HLO] at e1
          have i5 : (m : Int) < (ln : Int) := by omega
          unfold Oper.wp
          go_simp
          exact hK _ _ rfl (hR.other 9 63 _ (by decide) (by decide)) (fun _ _ h => h)
        | 10, _ =>
          cases ho
          have e : a'.tmps.getD 63 undef = .pointer (some ⟨g, off + m * 4, none⟩) := hdep 9 (by decide) (by kernel_rfl)
          obtain ⟨y0, y1, y2, y3⟩ := h7.below hbw hg
          unfold Oper.wp
          go_simp
          exact hK _ _ rfl (hR.other 10 64 _ (by decide) (by decide)) (fun _ _ h => h)
        | 11, _ =>
          cases ho
          have e : a'.tmps.getD 1 undef = .int .i64 ((d : Int) + 1) := hslot 1 (by decide)
          unfold Oper.wp
          go_simp
          exact hK _ _ rfl (hR.other 11 65 _ (by decide) (by decide)) (fun _ _ h => h)
        | 12, _ =>
          cases ho
          have e : a'.tmps.getD 65 undef = .int .i64 ((d : Int) + 1) := hdep 11 (by decide) (by kernel_rfl)
          unfold Oper.wp
          go_simp
          exact hK _ _ (by unfold trSp; simp only [Value.int.injEq, true_and, IntKind.wrap_i64]; omega) (hR.other 12 66 _ (by decide) (by decide)) (fun _ _ h => h)
        | 13, _ =>
          cases ho
          have e1 : a'.tmps.getD 64 undef = rk.val := hdep 10 (by decide) (by kernel_rfl)
          have e2 : a'.tmps.getD 66 undef = .int .i64 d := hdep 12 (by decide) (by kernel_rfl)
          have C := CK w' hbw
          unfold R4.val at e1
          clear CK
          unfold Oper.wp
          go_simp
          refine C.mono ?_
          rintro e w3 ⟨q, rfl, b3, hq⟩
          exact hK _ _ trivial (hR.call hL (by rw [hsz]; exact Nat.le_of_ble_eq_true (by kernel_rfl)) b3 hq) trSp_up
        | 14, _ =>
          cases ho
          have h13 : L 13 = true := hw 13 (by kernel_rfl)
          obtain ⟨q, e1, hq⟩ := hR.k13 h13 (hR.n15 (.inr (.inl hL)))
          have B14 := hR.build hL h13 (by rw [hsz]; exact Nat.le_of_ble_eq_true (by kernel_rfl)) e1 hq
          unfold R7.val at e1
          have e1' : a'.tmps[67]?.getD undef = .agg #[.int .i64 q.k, .bool q.b, .int .i64 q.n, .string q.s, .string q.t, .string q.i, .slice q.lo q.ll q.lc] := by simpa using e1
          have HB := hide B14
          clear B14 hq hsz
          unfold Oper.wp
          go_simp
          exact hK _ _ trivial (unhide HB) trSp_up
        | 15, _ =>
          cases ho
          have h13 : L 13 = true := hw 13 (by kernel_rfl)
          have h14 : L 14 = true := hw 14 (by kernel_rfl)
          have h1 : L 1 = true := hw 1 (by kernel_rfl)
          obtain ⟨q, blk, e1, hblk, hc, hq⟩ := hR.k14 h14 hL
          have e2 : a'.tmps.getD 55 undef = lv := hdep 1 (by decide) (by kernel_rfl)
          have hp := hR.pre hL
          have hcell : ∀ jj u, q.cells[jj]? = some u → w'.cell? ((⟨blk, 0, none⟩ : Addr).add jj) = some u := by
            intro jj u hu
            rw [Addr.add_lit, Nat.zero_add, Lib.cell_of_heap hc]
            simpa [R7.cells] using hu
          obtain ⟨v', w'', hr, hown', hgr, _, hat⟩ := run_append_own_at (P := Tryz.prog) w' (w.heap.size + 3) 40 40 42 i0 _ 7 96 Tryz.underlying40 hi hz0 hz1 hz2 rfl (by decide) lv rs.length (cellsE rs) (owns_below hp (unhide HH).own) ⟨blk, 0, none⟩ 1 1 q.cells rfl hcell (cellE_one q) (by unfold maxLen; omega) (by omega) (by have := hp.size; omega)
          have hs : a'.eval (.tmp 55) = lv := e2
          have hx : a'.eval (.tmp 68) = .slice (some ⟨blk, 0, none⟩) 1 1 := e1
          unfold Oper.wp execOp
          simp only [resolve, invoke, builtin, Sem.run_bind, Sem.run_pure, Result.andThen_ok, List.map_toArray, List.map_cons, List.map_nil, hs, hx, hr]
          exact hK _ _ trivial (hR.app (unhide HH) hL h13 h14 h1 (by rw [hsz]; exact Nat.le_of_ble_eq_true (by kernel_rfl)) hq hown' hgr hat) trSp_up
        | 16, _ =>
          cases ho
          have e : a'.tmps.getD 5 undef = .pointer (some ⟨w.heap.size + 2, 0, none⟩) := hslot 5 (by decide)
          unfold Oper.wp
          go_simp
          exact hK _ _ rfl (hR.other 16 70 _ (by decide) (by decide)) (fun _ _ h => h)
        | i + 17, h => exact absurd h (by omega)
      · intro i o hi' ho L a' w' hL hw hR hdep K hK
        have : i = 17 := by
          have h := (List.getElem?_eq_some_iff.1 ho).1
          simp only [List.length_cons, List.length_nil] at h
          omega
        subst this
        cases ho
        have h15 : L 15 = true := hw 15 (by kernel_rfl)
        obtain ⟨v', q, e1, hi2⟩ := hR.k15 h15 hL
        have e2 : a'.tmps.getD 70 undef = .pointer (some ⟨w.heap.size + 2, 6, none⟩) := hdep 16 (by decide) (by kernel_rfl)
        have hST := hide (hR.store h15 hL e1)
        have hpe := hi2.pe
        unfold exObj at hpe
        obtain ⟨_, _, _, _, _, _, c6', cf⟩ := blk7 hpe
        obtain ⟨ao', cap', hv0⟩ := ownX_slice hi2.own
        have hv' : v' = .slice ao' (rs.length + 1) cap' := by rw [hv0, List.length_append]; rfl
        clear hv0
        subst hv'
        unfold Oper.wp
        go_simp
        exact hK _ (unhide hST) trSp_up undef
      · intro v L w5 hall hR hsp
        obtain ⟨v', q, hinv⟩ := hR.k17 (hall 17 (by decide))
        have HV := hide hinv
        have e0 : v 0 = _ := hsp 0 (by decide)
        have e1 : v 1 = _ := hsp 1 (by decide)
        have e2 : v 2 = _ := hsp 2 (by decide)
        have e3 : v 3 = _ := hsp 3 (by decide)
        have e4 : v 4 = _ := hsp 4 (by decide)
        have e5 : v 5 = _ := hsp 5 (by decide)
        have e6 : v 6 = _ := hsp 6 (by decide)
        have e7 : v 7 = _ := hsp 7 (by decide)
        have e8 : v 8 = _ := hsp 8 (by decide)
        have e9 : v 9 = _ := hsp 9 (by decide)
        have e10 : v 10 = _ := hsp 10 (by decide)
        have e11 : v 11 = _ := hsp 11 (by decide)
        have e12 : v 12 = _ := hsp 12 (by decide)
        have e16 : v 16 = _ := hsp 16 (by decide)
        clear hR hall hsp hinv CK
        simp only [putAll, dstOf, List.getElem?_cons_zero, List.getElem?_cons_succ, Option.bind_some, e0, e1, e2, e3, e4, e5, e6, e7, e8, e9, e10, e11, e12, e16]
        clear e0 e1 e2 e3 e4 e5 e6 e7 e8 e9 e10 e11 e12 e16
        simp only [Act.put, List.setIfInBounds_toArray, List.set_cons_succ, List.set_cons_zero]
        generalize v 13 = v13
        generalize v 14 = v14
        generalize v 15 = v15
        go_wp2
        go_roundw
        case rel => exact ⟨j + 1, v', rs ++ [q], hlt, by go_num, by rw [List.length_append, unhide HRS]; rfl, by rw [unhide HKX]; exact unhide HV⟩
        case measure =>
          simp only [intOf]
          omega
    · obtain rfl : j = 2 := by omega
      have hpe := H.pe
      have hpq := H.pq
      unfold exObj at hpe
      obtain ⟨y0, y1, y2, y3, y4, y5, y6, _⟩ := blk7 hpe
      obtain ⟨z0, z1, z2, z3, z4, z5, z6, zf⟩ := blk7 hpq
      obtain ⟨g, cap, hlv, _⟩ := nodeEnd (S := []) H (by omega) undef undef undef undef undef undef undef
      have HE := hide (fun v0 v1 v2 v3 v4 v5 v6 => nodeEnd (S := []) H (by omega) v0 v1 v2 v3 v4 v5 v6)
      subst hlv
      rw [hrs] at y6
      have hbl := H.below
      clear hpe hpq H
      go_wp2
      exact bodyPost_ret (v := R7.val ⟨k, false, 0, ⟨#[]⟩, ⟨#[]⟩, ⟨#[]⟩, some ⟨g, 0, none⟩, 2, cap⟩) (by simp [results, Tryz.results8, go_sem, z0, z1, z2, z3, z4, z5, z6, R7.val]) rfl ⟨_, rfl, set7S_below hbl (Nat.le_succ _) _ _ _ _ _ _ _, by
        obtain ⟨g', cap', e, hI⟩ := unhide HE _ _ _ _ _ _ _
        rw [hrs] at e hI
        cases e
        exact hI⟩

set_option maxHeartbeats 4000000 in
set_option maxRecDepth 1000000 in
theorem tree_k11 (d : Nat) (op n : Int) (s : List Int) (l : List Rw) (r : R4) (w : World) (hx : IsR w r (.mk op n s l)) (hd : d ≤ 1000) (hd1 : 1 ≤ d) (hl0 : 0 < l.length)
    (ih : ∀ (x : Rw) (r : R4) (w : World), IsR w r x → Calls Tryz.prog 8 #[r.val, .int .i64 d] w fun e w' => ∃ q : R7, e = .returned q.val ∧ Below w.heap.size w w' ∧ IsE w' (fun b => w.heap.size ≤ b) q (treeX d x)) (hk2 : 6 + op % 20 = 11) :
    Calls Tryz.prog 8 #[r.val, .int .i64 (d + 1 : Nat)] w fun e w' => ∃ q : R7, e = .returned q.val ∧ Below w.heap.size w w' ∧ IsE w' (fun b => w.heap.size ≤ b) q (.mk 11 false 0 [] [] [] (kidsX d l 1)) := by
  unfold IsR at hx
  obtain ⟨rfl, rfl, hsl, hs1, hs2, hz, hll, hl1, hks⟩ := hx
  have b2 := below2 w (.cells #[.int .i64 r.op, .int .i64 r.n, .slice r.so r.sl r.sc, .slice r.lo r.ll r.lc] 26) (.cells #[.int .i64 0, .bool false, .int .i64 0, .string ⟨#[]⟩, .string ⟨#[]⟩, .string ⟨#[]⟩, .slice none 0 0] 42)
  have Z1 : ((w.alloc (.cells #[.int .i64 r.op, .int .i64 r.n, .slice r.so r.sl r.sc, .slice r.lo r.ll r.lc] 26)).alloc (.cells #[.int .i64 0, .bool false, .int .i64 0, .string ⟨#[]⟩, .string ⟨#[]⟩, .string ⟨#[]⟩, .slice none 0 0] 42)).heap[w.heap.size]? = some (.cells #[.int .i64 r.op, .int .i64 r.n, .slice r.so r.sl r.sc, .slice r.lo r.ll r.lc] 26 (0, 0)) := kept_of_below (newS _ _) (alloc_heap _ _)
  have z2 : ((w.alloc (.cells #[.int .i64 r.op, .int .i64 r.n, .slice r.so r.sl r.sc, .slice r.lo r.ll r.lc] 26)).alloc (.cells #[.int .i64 0, .bool false, .int .i64 0, .string ⟨#[]⟩, .string ⟨#[]⟩, .string ⟨#[]⟩, .slice none 0 0] 42)).heap.size = w.heap.size + 2 := by simp
  have Z2 : ((w.alloc (.cells #[.int .i64 r.op, .int .i64 r.n, .slice r.so r.sl r.sc, .slice r.lo r.ll r.lc] 26)).alloc (.cells #[.int .i64 0, .bool false, .int .i64 0, .string ⟨#[]⟩, .string ⟨#[]⟩, .string ⟨#[]⟩, .slice none 0 0] 42)).heap[w.heap.size + 1]? = some (.cells #[.int .i64 0, .bool false, .int .i64 0, .string ⟨#[]⟩, .string ⟨#[]⟩, .string ⟨#[]⟩, .slice none 0 0] 42 (0, 0)) := by
    have h := alloc_heap (w.alloc (.cells #[.int .i64 r.op, .int .i64 r.n, .slice r.so r.sl r.sc, .slice r.lo r.ll r.lc] 26)) (.cells #[.int .i64 0, .bool false, .int .i64 0, .string ⟨#[]⟩, .string ⟨#[]⟩, .string ⟨#[]⟩, .slice none 0 0] 42)
    rw [show (w.alloc (.cells #[.int .i64 r.op, .int .i64 r.n, .slice r.so r.sl r.sc, .slice r.lo r.ll r.lc] 26)).heap.size = w.heap.size + 1 by simp] at h
    exact h
  have W20 := fun w' => within5_any r.op 20 (by decide) (by decide) w'
  have hk0 : r.op % 20 = 5 := by omega
  rw [hk0] at W20
  rw [hll] at b2 Z1 Z2 z2
  unfold R4.val at ih ⊢
  rw [hll]
  have HIH := hide ih
  have HKS := hide hks
  have HZ2 := hide z2
  clear hz hks hll hs1 hs2 hk0 hk2 ih z2 hsl
  have i1 : ¬ ((d + 1 : Nat) : Int) ≤ 1 := by omega
  have i2 : ((l.length : Int) == 0) = false := beq_false_of_ne (by omega)
  generalize hln : l.length = ln at *
  have HLN := hide hln
  clear hln
  go_enter Tryz.func8, Tryz.ntmps8
  go_upto_region 1 with fail
  generalize (w.alloc _).alloc _ = w2 at *
  obtain ⟨x0, x1, x2, x3, _⟩ := blk4 Z1
  go_wp2_with fail
  refine (W20 _).mono ?_
  rintro e w3 ⟨rfl, rfl⟩
  clear W20
  go_upto_region 4 with fail
  rw [unhide HZ2]
  have n4 := newS w3 (.cells #[.int .i64 11, .bool false, .int .i64 0, .string ⟨#[]⟩, .string ⟨#[]⟩, .string ⟨#[]⟩, .slice none 0 0] 42)
  have Z4 : (w3.alloc (.cells #[.int .i64 11, .bool false, .int .i64 0, .string ⟨#[]⟩, .string ⟨#[]⟩, .string ⟨#[]⟩, .slice none 0 0] 42)).heap[w.heap.size + 2]? = some (.cells #[.int .i64 11, .bool false, .int .i64 0, .string ⟨#[]⟩, .string ⟨#[]⟩, .string ⟨#[]⟩, .slice none 0 0] 42 (0, 0)) := by
    have h := alloc_heap w3 (.cells #[.int .i64 11, .bool false, .int .i64 0, .string ⟨#[]⟩, .string ⟨#[]⟩, .string ⟨#[]⟩, .slice none 0 0] 42)
    rw [unhide HZ2] at h
    exact h
  have INV : RowInv w (w3.alloc (.cells #[.int .i64 11, .bool false, .int .i64 0, .string ⟨#[]⟩, .string ⟨#[]⟩, .string ⟨#[]⟩, .slice none 0 0] 42)) (.cells #[.int .i64 r.op, .int .i64 r.n, .slice r.so r.sl r.sc, .slice r.lo ln r.lc] 26 (0, 0)) (.cells #[.int .i64 0, .bool false, .int .i64 0, .string ⟨#[]⟩, .string ⟨#[]⟩, .string ⟨#[]⟩, .slice none 0 0] 42 (0, 0)) 11 ⟨#[]⟩ (.slice none 0 0) (.slice none 0 0) [] [] :=
    ⟨b2.trans (n4.mono b2.size), kept_of_below n4 Z1, kept_of_below n4 Z2, Z4, World.ownsRow_nil _ _ _ _, .nil⟩
  generalize w3.alloc _ = w4 at *
  clear x0 x1 x2 x3 Z1 Z2 n4 b2
  obtain ⟨y0, y1, y2, y3, y4, y5, y6, _⟩ := blk7 Z4
  go_wp2_with fail
  clear y0 y1 y2 y3 y4 y5 y6 Z4
  go_loopw [7] (fun iv wr => ∃ (j : Nat) (lv : Value) (rs : List R7), j ≤ 1 ∧ iv = .int .i64 j ∧ rs.length = j ∧ RowInv w wr (.cells #[.int .i64 r.op, .int .i64 r.n, .slice r.so r.sl r.sc, .slice r.lo ln r.lc] 26 (0, 0)) (.cells #[.int .i64 0, .bool false, .int .i64 0, .string ⟨#[]⟩, .string ⟨#[]⟩, .string ⟨#[]⟩, .slice none 0 0] 42 (0, 0)) 11 ⟨#[]⟩ lv lv rs (kidsX d l j)) (fun iv _ => 1 - (intOf iv).toNat)
  case atStart => exact ⟨0, .slice none 0 0, [], Nat.zero_le _, rfl, rfl, INV⟩
  case round =>
    obtain ⟨j, lv, rs, hj, rfl, hrs, H⟩ := hrel
    by_cases hlt : j < 1
    · have i4 : (j : Int) < 1 := by omega
      have hml : j % l.length < l.length := Nat.mod_lt _ (by rw [unhide HLN]; exact hl0)
      obtain ⟨rk, g, off, hlo, hg, h7, hxk⟩ := IsRs.get l 0 (j % l.length) hml (unhide HKS)
      rw [Nat.zero_add] at h7
      have HKX := hide (kidsX_succ d l j hml)
      have CK := fun w' (hb : Below w.heap.size w w') => unhide HIH l[j % l.length] rk w' (IsR.below hb rk _ hxk)
      generalize treeX d l[j % l.length] = X at *
      obtain ⟨m, hm⟩ : ∃ m : Nat, m = j % l.length := ⟨_, rfl⟩
      have hmln : m < ln := by rw [hm, ← unhide HLN]; exact hml
      have hmod : (j : Int).tmod (ln : Int) = (m : Int) := by rw [hm, unhide HLN]; rfl
      rw [← hm] at h7
      generalize kidsX d l j = xs at *
      obtain ⟨lao, lcap, hlv⟩ := ownX_slice H.own
      have hi0 := info_parts infoExpr
      obtain ⟨i0, hi, hz0, hz1, hz2⟩ := hi0
      have HH := hide H
      have HLO := hide hlo
      have HLV := hide hlv
      clear hlo hlv
      have hbase := H.base
      have hrl : rs.length ≤ 8 := by omega
      have HRS := hide hrs
      clear hxk hml hm hrs H
      go_upto_region 21 with fail
      refine wp_specsB 17 (trSp w.heap.size (w.heap.size + 2) j d m g off lv (.slice r.lo ln r.lc) rk ln) (TRw w wr (.cells #[.int .i64 r.op, .int .i64 r.n, .slice r.so r.sl r.sc, .slice r.lo ln r.lc] 26 (0, 0)) (.cells #[.int .i64 0, .bool false, .int .i64 0, .string ⟨#[]⟩, .string ⟨#[]⟩, .string ⟨#[]⟩, .slice none 0 0] 42 (0, 0)) 11 ⟨#[]⟩ lv rs xs X) (by kernel_rfl) (by kernel_rfl) (by kernel_rfl) (TRw.start _) ?_ ?_ ?_
      · intro i o hi' ho L a' w' hL hw hR hdep hslot hsz K hK
        obtain ⟨hbw, hpr⟩ := hR.below (unhide HH)
        match i, hi' with
        | 0, _ =>
          cases ho
          have e : a'.tmps.getD 5 undef = .pointer (some ⟨w.heap.size + 2, 0, none⟩) := hslot 5 (by decide)
          unfold Oper.wp
          go_simp
          exact hK _ _ rfl (hR.other 0 54 _ (by decide) (by decide)) (fun _ _ h => h)
        | 1, _ =>
          cases ho
          have e : a'.tmps.getD 54 undef = .pointer (some ⟨w.heap.size + 2, 6, none⟩) := hdep 0 (by decide) (by kernel_rfl)
          have hp := hR.pre (hR.n15 (.inr (.inr hL)))
          have hpe := kept_of_below hp (unhide HH).pe
          unfold exObj at hpe
          obtain ⟨_, _, _, _, _, _, c6', _⟩ := blk7 hpe
          unfold Oper.wp
          go_simp
          exact hK _ _ rfl (hR.other 1 55 _ (by decide) (by decide)) (fun _ _ h => h)
        | 2, _ =>
          cases ho
          have e : a'.tmps.getD 2 undef = .pointer (some ⟨w.heap.size, 0, none⟩) := hslot 2 (by decide)
          unfold Oper.wp
          go_simp
          exact hK _ _ rfl (hR.other 2 56 _ (by decide) (by decide)) (fun _ _ h => h)
        | 3, _ =>
          cases ho
          have e : a'.tmps.getD 56 undef = .pointer (some ⟨w.heap.size, 3, none⟩) := hdep 2 (by decide) (by kernel_rfl)
          obtain ⟨_, _, _, c3', _⟩ := blk4 hpr
          unfold Oper.wp
          go_simp
          exact hK _ _ rfl (hR.other 3 57 _ (by decide) (by decide)) (fun _ _ h => h)
        | 4, _ =>
          cases ho
          have e : a'.tmps.getD 7 undef = .int .i64 j := hslot 7 (by decide)
          unfold Oper.wp
          go_simp
          exact hK _ _ rfl (hR.other 4 58 _ (by decide) (by decide)) (fun _ _ h => h)
        | 5, _ =>
          cases ho
          have e : a'.tmps.getD 2 undef = .pointer (some ⟨w.heap.size, 0, none⟩) := hslot 2 (by decide)
          unfold Oper.wp
          go_simp
          exact hK _ _ rfl (hR.other 5 59 _ (by decide) (by decide)) (fun _ _ h => h)
        | 6, _ =>
          cases ho
          have e : a'.tmps.getD 59 undef = .pointer (some ⟨w.heap.size, 3, none⟩) := hdep 5 (by decide) (by kernel_rfl)
          obtain ⟨_, _, _, c3', _⟩ := blk4 hpr
          unfold Oper.wp
          go_simp
          exact hK _ _ rfl (hR.other 6 60 _ (by decide) (by decide)) (fun _ _ h => h)
        | 7, _ =>
          cases ho
          have e : a'.tmps.getD 60 undef = .slice r.lo ln r.lc := hdep 6 (by decide) (by kernel_rfl)
          unfold Oper.wp
          go_simp
          exact hK _ _ rfl (hR.other 7 61 _ (by decide) (by decide)) (fun _ _ h => h)
        | 8, _ =>
          cases ho
          have e1 : a'.tmps.getD 58 undef = .int .i64 j := hdep 4 (by decide) (by kernel_rfl)
          have e2 : a'.tmps.getD 61 undef = .int .i64 ln := hdep 7 (by decide) (by kernel_rfl)
          have n0 : ¬ ln = 0 := by omega
          unfold Oper.wp
          go_simp
          exact hK _ _ rfl (hR.other 8 62 _ (by decide) (by decide)) (fun _ _ h => h)
        | 9, _ =>
          cases ho
          have e1 : a'.tmps.getD 57 undef = .slice r.lo ln r.lc := hdep 3 (by decide) (by kernel_rfl)
          have e2 : a'.tmps.getD 62 undef = .int .i64 m := hdep 8 (by decide) (by kernel_rfl)
          rw [unhide HLO] at e1
          have i5 : (m : Int) < (ln : Int) := by omega
          unfold Oper.wp
          go_simp
          exact hK _ _ rfl (hR.other 9 63 _ (by decide) (by decide)) (fun _ _ h => h)
        | 10, _ =>
          cases ho
          have e : a'.tmps.getD 63 undef = .pointer (some ⟨g, off + m * 4, none⟩) := hdep 9 (by decide) (by kernel_rfl)
          obtain ⟨y0, y1, y2, y3⟩ := h7.below hbw hg
          unfold Oper.wp
          go_simp
          exact hK _ _ rfl (hR.other 10 64 _ (by decide) (by decide)) (fun _ _ h => h)
        | 11, _ =>
          cases ho
          have e : a'.tmps.getD 1 undef = .int .i64 ((d : Int) + 1) := hslot 1 (by decide)
          unfold Oper.wp
          go_simp
          exact hK _ _ rfl (hR.other 11 65 _ (by decide) (by decide)) (fun _ _ h => h)
        | 12, _ =>
          cases ho
          have e : a'.tmps.getD 65 undef = .int .i64 ((d : Int) + 1) := hdep 11 (by decide) (by kernel_rfl)
          unfold Oper.wp
          go_simp
          exact hK _ _ (by unfold trSp; simp only [Value.int.injEq, true_and, IntKind.wrap_i64]; omega) (hR.other 12 66 _ (by decide) (by decide)) (fun _ _ h => h)
        | 13, _ =>
          cases ho
          have e1 : a'.tmps.getD 64 undef = rk.val := hdep 10 (by decide) (by kernel_rfl)
          have e2 : a'.tmps.getD 66 undef = .int .i64 d := hdep 12 (by decide) (by kernel_rfl)
          have C := CK w' hbw
          unfold R4.val at e1
          clear CK
          unfold Oper.wp
          go_simp
          refine C.mono ?_
          rintro e w3 ⟨q, rfl, b3, hq⟩
          exact hK _ _ trivial (hR.call hL (by rw [hsz]; exact Nat.le_of_ble_eq_true (by kernel_rfl)) b3 hq) trSp_up
        | 14, _ =>
          cases ho
          have h13 : L 13 = true := hw 13 (by kernel_rfl)
          obtain ⟨q, e1, hq⟩ := hR.k13 h13 (hR.n15 (.inr (.inl hL)))
          have B14 := hR.build hL h13 (by rw [hsz]; exact Nat.le_of_ble_eq_true (by kernel_rfl)) e1 hq
          unfold R7.val at e1
          have e1' : a'.tmps[67]?.getD undef = .agg #[.int .i64 q.k, .bool q.b, .int .i64 q.n, .string q.s, .string q.t, .string q.i, .slice q.lo q.ll q.lc] := by simpa using e1
          have HB := hide B14
          clear B14 hq hsz
          unfold Oper.wp
          go_simp
          exact hK _ _ trivial (unhide HB) trSp_up
        | 15, _ =>
          cases ho
          have h13 : L 13 = true := hw 13 (by kernel_rfl)
          have h14 : L 14 = true := hw 14 (by kernel_rfl)
          have h1 : L 1 = true := hw 1 (by kernel_rfl)
          obtain ⟨q, blk, e1, hblk, hc, hq⟩ := hR.k14 h14 hL
          have e2 : a'.tmps.getD 55 undef = lv := hdep 1 (by decide) (by kernel_rfl)
          have hp := hR.pre hL
          have hcell : ∀ jj u, q.cells[jj]? = some u → w'.cell? ((⟨blk, 0, none⟩ : Addr).add jj) = some u := by
            intro jj u hu
            rw [Addr.add_lit, Nat.zero_add, Lib.cell_of_heap hc]
            simpa [R7.cells] using hu
          obtain ⟨v', w'', hr, hown', hgr, _, hat⟩ := run_append_own_at (P := Tryz.prog) w' (w.heap.size + 3) 40 40 42 i0 _ 7 96 Tryz.underlying40 hi hz0 hz1 hz2 rfl (by decide) lv rs.length (cellsE rs) (owns_below hp (unhide HH).own) ⟨blk, 0, none⟩ 1 1 q.cells rfl hcell (cellE_one q) (by unfold maxLen; omega) (by omega) (by have := hp.size; omega)
          have hs : a'.eval (.tmp 55) = lv := e2
          have hx : a'.eval (.tmp 68) = .slice (some ⟨blk, 0, none⟩) 1 1 := e1
          unfold Oper.wp execOp
          simp only [resolve, invoke, builtin, Sem.run_bind, Sem.run_pure, Result.andThen_ok, List.map_toArray, List.map_cons, List.map_nil, hs, hx, hr]
          exact hK _ _ trivial (hR.app (unhide HH) hL h13 h14 h1 (by rw [hsz]; exact Nat.le_of_ble_eq_true (by kernel_rfl)) hq hown' hgr hat) trSp_up
        | 16, _ =>
          cases ho
          have e : a'.tmps.getD 5 undef = .pointer (some ⟨w.heap.size + 2, 0, none⟩) := hslot 5 (by decide)
          unfold Oper.wp
          go_simp
          exact hK _ _ rfl (hR.other 16 70 _ (by decide) (by decide)) (fun _ _ h => h)
        | i + 17, h => exact absurd h (by omega)
      · intro i o hi' ho L a' w' hL hw hR hdep K hK
        have : i = 17 := by
          have h := (List.getElem?_eq_some_iff.1 ho).1
          simp only [List.length_cons, List.length_nil] at h
          omega
        subst this
        cases ho
        have h15 : L 15 = true := hw 15 (by kernel_rfl)
        obtain ⟨v', q, e1, hi2⟩ := hR.k15 h15 hL
        have e2 : a'.tmps.getD 70 undef = .pointer (some ⟨w.heap.size + 2, 6, none⟩) := hdep 16 (by decide) (by kernel_rfl)
        have hST := hide (hR.store h15 hL e1)
        have hpe := hi2.pe
        unfold exObj at hpe
        obtain ⟨_, _, _, _, _, _, c6', cf⟩ := blk7 hpe
        obtain ⟨ao', cap', hv0⟩ := ownX_slice hi2.own
        have hv' : v' = .slice ao' (rs.length + 1) cap' := by rw [hv0, List.length_append]; rfl
        clear hv0
        subst hv'
        unfold Oper.wp
        go_simp
        exact hK _ (unhide hST) trSp_up undef
      · intro v L w5 hall hR hsp
        obtain ⟨v', q, hinv⟩ := hR.k17 (hall 17 (by decide))
        have HV := hide hinv
        have e0 : v 0 = _ := hsp 0 (by decide)
        have e1 : v 1 = _ := hsp 1 (by decide)
        have e2 : v 2 = _ := hsp 2 (by decide)
        have e3 : v 3 = _ := hsp 3 (by decide)
        have e4 : v 4 = _ := hsp 4 (by decide)
        have e5 : v 5 = _ := hsp 5 (by decide)
        have e6 : v 6 = _ := hsp 6 (by decide)
        have e7 : v 7 = _ := hsp 7 (by decide)
        have e8 : v 8 = _ := hsp 8 (by decide)
        have e9 : v 9 = _ := hsp 9 (by decide)
        have e10 : v 10 = _ := hsp 10 (by decide)
        have e11 : v 11 = _ := hsp 11 (by decide)
        have e12 : v 12 = _ := hsp 12 (by decide)
        have e16 : v 16 = _ := hsp 16 (by decide)
        clear hR hall hsp hinv CK
        simp only [putAll, dstOf, List.getElem?_cons_zero, List.getElem?_cons_succ, Option.bind_some, e0, e1, e2, e3, e4, e5, e6, e7, e8, e9, e10, e11, e12, e16]
        clear e0 e1 e2 e3 e4 e5 e6 e7 e8 e9 e10 e11 e12 e16
        simp only [Act.put, List.setIfInBounds_toArray, List.set_cons_succ, List.set_cons_zero]
        generalize v 13 = v13
        generalize v 14 = v14
        generalize v 15 = v15
        go_wp2
        go_roundw
        case rel => exact ⟨j + 1, v', rs ++ [q], hlt, by go_num, by rw [List.length_append, unhide HRS]; rfl, by rw [unhide HKX]; exact unhide HV⟩
        case measure =>
          simp only [intOf]
          omega
    · obtain rfl : j = 1 := by omega
      have hpe := H.pe
      have hpq := H.pq
      unfold exObj at hpe
      obtain ⟨y0, y1, y2, y3, y4, y5, y6, _⟩ := blk7 hpe
      obtain ⟨z0, z1, z2, z3, z4, z5, z6, zf⟩ := blk7 hpq
      obtain ⟨g, cap, hlv, _⟩ := nodeEnd (S := []) H (by omega) undef undef undef undef undef undef undef
      have HE := hide (fun v0 v1 v2 v3 v4 v5 v6 => nodeEnd (S := []) H (by omega) v0 v1 v2 v3 v4 v5 v6)
      subst hlv
      rw [hrs] at y6
      have hbl := H.below
      clear hpe hpq H
      go_wp2
      exact bodyPost_ret (v := R7.val ⟨11, false, 0, ⟨#[]⟩, ⟨#[]⟩, ⟨#[]⟩, some ⟨g, 0, none⟩, 1, cap⟩) (by simp [results, Tryz.results8, go_sem, z0, z1, z2, z3, z4, z5, z6, R7.val]) rfl ⟨_, rfl, set7S_below hbl (Nat.le_succ _) _ _ _ _ _ _ _, by
        obtain ⟨g', cap', e, hI⟩ := unhide HE _ _ _ _ _ _ _
        rw [hrs] at e hI
        cases e
        exact hI⟩

set_option maxHeartbeats 4000000 in
set_option maxRecDepth 1000000 in
theorem tree_k12 (d : Nat) (op n : Int) (s : List Int) (l : List Rw) (r : R4) (w : World) (hx : IsR w r (.mk op n s l)) (hd : d ≤ 1000) (hd1 : 1 ≤ d) (hl0 : 0 < l.length)
    (ih : ∀ (x : Rw) (r : R4) (w : World), IsR w r x → Calls Tryz.prog 8 #[r.val, .int .i64 d] w fun e w' => ∃ q : R7, e = .returned q.val ∧ Below w.heap.size w w' ∧ IsE w' (fun b => w.heap.size ≤ b) q (treeX d x)) (hk2 : 6 + op % 20 = 12) :
    Calls Tryz.prog 8 #[r.val, .int .i64 (d + 1 : Nat)] w fun e w' => ∃ q : R7, e = .returned q.val ∧ Below w.heap.size w w' ∧ IsE w' (fun b => w.heap.size ≤ b) q (.mk 12 false 0 [] [] [] (kidsX d l 1)) := by
  unfold IsR at hx
  obtain ⟨rfl, rfl, hsl, hs1, hs2, hz, hll, hl1, hks⟩ := hx
  have b2 := below2 w (.cells #[.int .i64 r.op, .int .i64 r.n, .slice r.so r.sl r.sc, .slice r.lo r.ll r.lc] 26) (.cells #[.int .i64 0, .bool false, .int .i64 0, .string ⟨#[]⟩, .string ⟨#[]⟩, .string ⟨#[]⟩, .slice none 0 0] 42)
  have Z1 : ((w.alloc (.cells #[.int .i64 r.op, .int .i64 r.n, .slice r.so r.sl r.sc, .slice r.lo r.ll r.lc] 26)).alloc (.cells #[.int .i64 0, .bool false, .int .i64 0, .string ⟨#[]⟩, .string ⟨#[]⟩, .string ⟨#[]⟩, .slice none 0 0] 42)).heap[w.heap.size]? = some (.cells #[.int .i64 r.op, .int .i64 r.n, .slice r.so r.sl r.sc, .slice r.lo r.ll r.lc] 26 (0, 0)) := kept_of_below (newS _ _) (alloc_heap _ _)
  have z2 : ((w.alloc (.cells #[.int .i64 r.op, .int .i64 r.n, .slice r.so r.sl r.sc, .slice r.lo r.ll r.lc] 26)).alloc (.cells #[.int .i64 0, .bool false, .int .i64 0, .string ⟨#[]⟩, .string ⟨#[]⟩, .string ⟨#[]⟩, .slice none 0 0] 42)).heap.size = w.heap.size + 2 := by simp
  have Z2 : ((w.alloc (.cells #[.int .i64 r.op, .int .i64 r.n, .slice r.so r.sl r.sc, .slice r.lo r.ll r.lc] 26)).alloc (.cells #[.int .i64 0, .bool false, .int .i64 0, .string ⟨#[]⟩, .string ⟨#[]⟩, .string ⟨#[]⟩, .slice none 0 0] 42)).heap[w.heap.size + 1]? = some (.cells #[.int .i64 0, .bool false, .int .i64 0, .string ⟨#[]⟩, .string ⟨#[]⟩, .string ⟨#[]⟩, .slice none 0 0] 42 (0, 0)) := by
    have h := alloc_heap (w.alloc (.cells #[.int .i64 r.op, .int .i64 r.n, .slice r.so r.sl r.sc, .slice r.lo r.ll r.lc] 26)) (.cells #[.int .i64 0, .bool false, .int .i64 0, .string ⟨#[]⟩, .string ⟨#[]⟩, .string ⟨#[]⟩, .slice none 0 0] 42)
    rw [show (w.alloc (.cells #[.int .i64 r.op, .int .i64 r.n, .slice r.so r.sl r.sc, .slice r.lo r.ll r.lc] 26)).heap.size = w.heap.size + 1 by simp] at h
    exact h
  have W20 := fun w' => within5_any r.op 20 (by decide) (by decide) w'
  have hk0 : r.op % 20 = 6 := by omega
  rw [hk0] at W20
  rw [hll] at b2 Z1 Z2 z2
  unfold R4.val at ih ⊢
  rw [hll]
  have HIH := hide ih
  have HKS := hide hks
  have HZ2 := hide z2
  clear hz hks hll hs1 hs2 hk0 hk2 ih z2 hsl
  have i1 : ¬ ((d + 1 : Nat) : Int) ≤ 1 := by omega
  have i2 : ((l.length : Int) == 0) = false := beq_false_of_ne (by omega)
  generalize hln : l.length = ln at *
  have HLN := hide hln
  clear hln
  go_enter Tryz.func8, Tryz.ntmps8
  go_upto_region 1 with fail
  generalize (w.alloc _).alloc _ = w2 at *
  obtain ⟨x0, x1, x2, x3, _⟩ := blk4 Z1
  go_wp2_with fail
  refine (W20 _).mono ?_
  rintro e w3 ⟨rfl, rfl⟩
  clear W20
  go_upto_region 4 with fail
  rw [unhide HZ2]
  have n4 := newS w3 (.cells #[.int .i64 12, .bool false, .int .i64 0, .string ⟨#[]⟩, .string ⟨#[]⟩, .string ⟨#[]⟩, .slice none 0 0] 42)
  have Z4 : (w3.alloc (.cells #[.int .i64 12, .bool false, .int .i64 0, .string ⟨#[]⟩, .string ⟨#[]⟩, .string ⟨#[]⟩, .slice none 0 0] 42)).heap[w.heap.size + 2]? = some (.cells #[.int .i64 12, .bool false, .int .i64 0, .string ⟨#[]⟩, .string ⟨#[]⟩, .string ⟨#[]⟩, .slice none 0 0] 42 (0, 0)) := by
    have h := alloc_heap w3 (.cells #[.int .i64 12, .bool false, .int .i64 0, .string ⟨#[]⟩, .string ⟨#[]⟩, .string ⟨#[]⟩, .slice none 0 0] 42)
    rw [unhide HZ2] at h
    exact h
  have INV : RowInv w (w3.alloc (.cells #[.int .i64 12, .bool false, .int .i64 0, .string ⟨#[]⟩, .string ⟨#[]⟩, .string ⟨#[]⟩, .slice none 0 0] 42)) (.cells #[.int .i64 r.op, .int .i64 r.n, .slice r.so r.sl r.sc, .slice r.lo ln r.lc] 26 (0, 0)) (.cells #[.int .i64 0, .bool false, .int .i64 0, .string ⟨#[]⟩, .string ⟨#[]⟩, .string ⟨#[]⟩, .slice none 0 0] 42 (0, 0)) 12 ⟨#[]⟩ (.slice none 0 0) (.slice none 0 0) [] [] :=
    ⟨b2.trans (n4.mono b2.size), kept_of_below n4 Z1, kept_of_below n4 Z2, Z4, World.ownsRow_nil _ _ _ _, .nil⟩
  generalize w3.alloc _ = w4 at *
  clear x0 x1 x2 x3 Z1 Z2 n4 b2
  obtain ⟨y0, y1, y2, y3, y4, y5, y6, _⟩ := blk7 Z4
  go_wp2_with fail
  clear y0 y1 y2 y3 y4 y5 y6 Z4
  go_loopw [7] (fun iv wr => ∃ (j : Nat) (lv : Value) (rs : List R7), j ≤ 1 ∧ iv = .int .i64 j ∧ rs.length = j ∧ RowInv w wr (.cells #[.int .i64 r.op, .int .i64 r.n, .slice r.so r.sl r.sc, .slice r.lo ln r.lc] 26 (0, 0)) (.cells #[.int .i64 0, .bool false, .int .i64 0, .string ⟨#[]⟩, .string ⟨#[]⟩, .string ⟨#[]⟩, .slice none 0 0] 42 (0, 0)) 12 ⟨#[]⟩ lv lv rs (kidsX d l j)) (fun iv _ => 1 - (intOf iv).toNat)
  case atStart => exact ⟨0, .slice none 0 0, [], Nat.zero_le _, rfl, rfl, INV⟩
  case round =>
    obtain ⟨j, lv, rs, hj, rfl, hrs, H⟩ := hrel
    by_cases hlt : j < 1
    · have i4 : (j : Int) < 1 := by omega
      have hml : j % l.length < l.length := Nat.mod_lt _ (by rw [unhide HLN]; exact hl0)
      obtain ⟨rk, g, off, hlo, hg, h7, hxk⟩ := IsRs.get l 0 (j % l.length) hml (unhide HKS)
      rw [Nat.zero_add] at h7
      have HKX := hide (kidsX_succ d l j hml)
      have CK := fun w' (hb : Below w.heap.size w w') => unhide HIH l[j % l.length] rk w' (IsR.below hb rk _ hxk)
      generalize treeX d l[j % l.length] = X at *
      obtain ⟨m, hm⟩ : ∃ m : Nat, m = j % l.length := ⟨_, rfl⟩
      have hmln : m < ln := by rw [hm, ← unhide HLN]; exact hml
      have hmod : (j : Int).tmod (ln : Int) = (m : Int) := by rw [hm, unhide HLN]; rfl
      rw [← hm] at h7
      generalize kidsX d l j = xs at *
      obtain ⟨lao, lcap, hlv⟩ := ownX_slice H.own
      have hi0 := info_parts infoExpr
      obtain ⟨i0, hi, hz0, hz1, hz2⟩ := hi0
      have HH := hide H
      have HLO := hide hlo
      have HLV := hide hlv
      clear hlo hlv
      have hbase := H.base
      have hrl : rs.length ≤ 8 := by omega
      have HRS := hide hrs
      clear hxk hml hm hrs H
      go_upto_region 21 with fail
      refine wp_specsB 17 (trSp w.heap.size (w.heap.size + 2) j d m g off lv (.slice r.lo ln r.lc) rk ln) (TRw w wr (.cells #[.int .i64 r.op, .int .i64 r.n, .slice r.so r.sl r.sc, .slice r.lo ln r.lc] 26 (0, 0)) (.cells #[.int .i64 0, .bool false, .int .i64 0, .string ⟨#[]⟩, .string ⟨#[]⟩, .string ⟨#[]⟩, .slice none 0 0] 42 (0, 0)) 12 ⟨#[]⟩ lv rs xs X) (by kernel_rfl) (by kernel_rfl) (by kernel_rfl) (TRw.start _) ?_ ?_ ?_
      · intro i o hi' ho L a' w' hL hw hR hdep hslot hsz K hK
        obtain ⟨hbw, hpr⟩ := hR.below (unhide HH)
        match i, hi' with
        | 0, _ =>
          cases ho
          have e : a'.tmps.getD 5 undef = .pointer (some ⟨w.heap.size + 2, 0, none⟩) := hslot 5 (by decide)
          unfold Oper.wp
          go_simp
          exact hK _ _ rfl (hR.other 0 54 _ (by decide) (by decide)) (fun _ _ h => h)
        | 1, _ =>
          cases ho
          have e : a'.tmps.getD 54 undef = .pointer (some ⟨w.heap.size + 2, 6, none⟩) := hdep 0 (by decide) (by kernel_rfl)
          have hp := hR.pre (hR.n15 (.inr (.inr hL)))
          have hpe := kept_of_below hp (unhide HH).pe
          unfold exObj at hpe
          obtain ⟨_, _, _, _, _, _, c6', _⟩ := blk7 hpe
          unfold Oper.wp
          go_simp
          exact hK _ _ rfl (hR.other 1 55 _ (by decide) (by decide)) (fun _ _ h => h)
        | 2, _ =>
          cases ho
          have e : a'.tmps.getD 2 undef = .pointer (some ⟨w.heap.size, 0, none⟩) := hslot 2 (by decide)
          unfold Oper.wp
          go_simp
          exact hK _ _ rfl (hR.other 2 56 _ (by decide) (by decide)) (fun _ _ h => h)
        | 3, _ =>
          cases ho
          have e : a'.tmps.getD 56 undef = .pointer (some ⟨w.heap.size, 3, none⟩) := hdep 2 (by decide) (by kernel_rfl)
          obtain ⟨_, _, _, c3', _⟩ := blk4 hpr
          unfold Oper.wp
          go_simp
          exact hK _ _ rfl (hR.other 3 57 _ (by decide) (by decide)) (fun _ _ h => h)
        | 4, _ =>
          cases ho
          have e : a'.tmps.getD 7 undef = .int .i64 j := hslot 7 (by decide)
          unfold Oper.wp
          go_simp
          exact hK _ _ rfl (hR.other 4 58 _ (by decide) (by decide)) (fun _ _ h => h)
        | 5, _ =>
          cases ho
          have e : a'.tmps.getD 2 undef = .pointer (some ⟨w.heap.size, 0, none⟩) := hslot 2 (by decide)
          unfold Oper.wp
          go_simp
          exact hK _ _ rfl (hR.other 5 59 _ (by decide) (by decide)) (fun _ _ h => h)
        | 6, _ =>
          cases ho
          have e : a'.tmps.getD 59 undef = .pointer (some ⟨w.heap.size, 3, none⟩) := hdep 5 (by decide) (by kernel_rfl)
          obtain ⟨_, _, _, c3', _⟩ := blk4 hpr
          unfold Oper.wp
          go_simp
          exact hK _ _ rfl (hR.other 6 60 _ (by decide) (by decide)) (fun _ _ h => h)
        | 7, _ =>
          cases ho
          have e : a'.tmps.getD 60 undef = .slice r.lo ln r.lc := hdep 6 (by decide) (by kernel_rfl)
          unfold Oper.wp
          go_simp
          exact hK _ _ rfl (hR.other 7 61 _ (by decide) (by decide)) (fun _ _ h => h)
        | 8, _ =>
          cases ho
          have e1 : a'.tmps.getD 58 undef = .int .i64 j := hdep 4 (by decide) (by kernel_rfl)
          have e2 : a'.tmps.getD 61 undef = .int .i64 ln := hdep 7 (by decide) (by kernel_rfl)
          have n0 : ¬ ln = 0 := by omega
          unfold Oper.wp
          go_simp
          exact hK _ _ rfl (hR.other 8 62 _ (by decide) (by decide)) (fun _ _ h => h)
        | 9, _ =>
          cases ho
          have e1 : a'.tmps.getD 57 undef = .slice r.lo ln r.lc := hdep 3 (by decide) (by kernel_rfl)
          have e2 : a'.tmps.getD 62 undef = .int .i64 m := hdep 8 (by decide) (by kernel_rfl)
          rw [unhide HLO] at e1
          have i5 : (m : Int) < (ln : Int) := by omega
          unfold Oper.wp
          go_simp
          exact hK _ _ rfl (hR.other 9 63 _ (by decide) (by decide)) (fun _ _ h => h)
        | 10, _ =>
          cases ho
          have e : a'.tmps.getD 63 undef = .pointer (some ⟨g, off + m * 4, none⟩) := hdep 9 (by decide) (by kernel_rfl)
          obtain ⟨y0, y1, y2, y3⟩ := h7.below hbw hg
          unfold Oper.wp
          go_simp
          exact hK _ _ rfl (hR.other 10 64 _ (by decide) (by decide)) (fun _ _ h => h)
        | 11, _ =>
          cases ho
          have e : a'.tmps.getD 1 undef = .int .i64 ((d : Int) + 1) := hslot 1 (by decide)
          unfold Oper.wp
          go_simp
          exact hK _ _ rfl (hR.other 11 65 _ (by decide) (by decide)) (fun _ _ h => h)
        | 12, _ =>
          cases ho
          have e : a'.tmps.getD 65 undef = .int .i64 ((d : Int) + 1) := hdep 11 (by decide) (by kernel_rfl)
          unfold Oper.wp
          go_simp
          exact hK _ _ (by unfold trSp; simp only [Value.int.injEq, true_and, IntKind.wrap_i64]; omega) (hR.other 12 66 _ (by decide) (by decide)) (fun _ _ h => h)
        | 13, _ =>
          cases ho
          have e1 : a'.tmps.getD 64 undef = rk.val := hdep 10 (by decide) (by kernel_rfl)
          have e2 : a'.tmps.getD 66 undef = .int .i64 d := hdep 12 (by decide) (by kernel_rfl)
          have C := CK w' hbw
          unfold R4.val at e1
          clear CK
          unfold Oper.wp
          go_simp
          refine C.mono ?_
          rintro e w3 ⟨q, rfl, b3, hq⟩
          exact hK _ _ trivial (hR.call hL (by rw [hsz]; exact Nat.le_of_ble_eq_true (by kernel_rfl)) b3 hq) trSp_up
        | 14, _ =>
          cases ho
          have h13 : L 13 = true := hw 13 (by kernel_rfl)
          obtain ⟨q, e1, hq⟩ := hR.k13 h13 (hR.n15 (.inr (.inl hL)))
          have B14 := hR.build hL h13 (by rw [hsz]; exact Nat.le_of_ble_eq_true (by kernel_rfl)) e1 hq
          unfold R7.val at e1
          have e1' : a'.tmps[67]?.getD undef = .agg #[.int .i64 q.k, .bool q.b, .int .i64 q.n, .string q.s, .string q.t, .string q.i, .slice q.lo q.ll q.lc] := by simpa using e1
          have HB := hide B14
          clear B14 hq hsz
          unfold Oper.wp
          go_simp
          exact hK _ _ trivial (unhide HB) trSp_up
        | 15, _ =>
          cases ho
          have h13 : L 13 = true := hw 13 (by kernel_rfl)
          have h14 : L 14 = true := hw 14 (by kernel_rfl)
          have h1 : L 1 = true := hw 1 (by kernel_rfl)
          obtain ⟨q, blk, e1, hblk, hc, hq⟩ := hR.k14 h14 hL
          have e2 : a'.tmps.getD 55 undef = lv := hdep 1 (by decide) (by kernel_rfl)
          have hp := hR.pre hL
          have hcell : ∀ jj u, q.cells[jj]? = some u → w'.cell? ((⟨blk, 0, none⟩ : Addr).add jj) = some u := by
            intro jj u hu
            rw [Addr.add_lit, Nat.zero_add, Lib.cell_of_heap hc]
            simpa [R7.cells] using hu
          obtain ⟨v', w'', hr, hown', hgr, _, hat⟩ := run_append_own_at (P := Tryz.prog) w' (w.heap.size + 3) 40 40 42 i0 _ 7 96 Tryz.underlying40 hi hz0 hz1 hz2 rfl (by decide) lv rs.length (cellsE rs) (owns_below hp (unhide HH).own) ⟨blk, 0, none⟩ 1 1 q.cells rfl hcell (cellE_one q) (by unfold maxLen; omega) (by omega) (by have := hp.size; omega)
          have hs : a'.eval (.tmp 55) = lv := e2
          have hx : a'.eval (.tmp 68) = .slice (some ⟨blk, 0, none⟩) 1 1 := e1
          unfold Oper.wp execOp
          simp only [resolve, invoke, builtin, Sem.run_bind, Sem.run_pure, Result.andThen_ok, List.map_toArray, List.map_cons, List.map_nil, hs, hx, hr]
          exact hK _ _ trivial (hR.app (unhide HH) hL h13 h14 h1 (by rw [hsz]; exact Nat.le_of_ble_eq_true (by kernel_rfl)) hq hown' hgr hat) trSp_up
        | 16, _ =>
          cases ho
          have e : a'.tmps.getD 5 undef = .pointer (some ⟨w.heap.size + 2, 0, none⟩) := hslot 5 (by decide)
          unfold Oper.wp
          go_simp
          exact hK _ _ rfl (hR.other 16 70 _ (by decide) (by decide)) (fun _ _ h => h)
        | i + 17, h => exact absurd h (by omega)
      · intro i o hi' ho L a' w' hL hw hR hdep K hK
        have : i = 17 := by
          have h := (List.getElem?_eq_some_iff.1 ho).1
          simp only [List.length_cons, List.length_nil] at h
          omega
        subst this
        cases ho
        have h15 : L 15 = true := hw 15 (by kernel_rfl)
        obtain ⟨v', q, e1, hi2⟩ := hR.k15 h15 hL
        have e2 : a'.tmps.getD 70 undef = .pointer (some ⟨w.heap.size + 2, 6, none⟩) := hdep 16 (by decide) (by kernel_rfl)
        have hST := hide (hR.store h15 hL e1)
        have hpe := hi2.pe
        unfold exObj at hpe
        obtain ⟨_, _, _, _, _, _, c6', cf⟩ := blk7 hpe
        obtain ⟨ao', cap', hv0⟩ := ownX_slice hi2.own
        have hv' : v' = .slice ao' (rs.length + 1) cap' := by rw [hv0, List.length_append]; rfl
        clear hv0
        subst hv'
        unfold Oper.wp
        go_simp
        exact hK _ (unhide hST) trSp_up undef
      · intro v L w5 hall hR hsp
        obtain ⟨v', q, hinv⟩ := hR.k17 (hall 17 (by decide))
        have HV := hide hinv
        have e0 : v 0 = _ := hsp 0 (by decide)
        have e1 : v 1 = _ := hsp 1 (by decide)
        have e2 : v 2 = _ := hsp 2 (by decide)
        have e3 : v 3 = _ := hsp 3 (by decide)
        have e4 : v 4 = _ := hsp 4 (by decide)
        have e5 : v 5 = _ := hsp 5 (by decide)
        have e6 : v 6 = _ := hsp 6 (by decide)
        have e7 : v 7 = _ := hsp 7 (by decide)
        have e8 : v 8 = _ := hsp 8 (by decide)
        have e9 : v 9 = _ := hsp 9 (by decide)
        have e10 : v 10 = _ := hsp 10 (by decide)
        have e11 : v 11 = _ := hsp 11 (by decide)
        have e12 : v 12 = _ := hsp 12 (by decide)
        have e16 : v 16 = _ := hsp 16 (by decide)
        clear hR hall hsp hinv CK
        simp only [putAll, dstOf, List.getElem?_cons_zero, List.getElem?_cons_succ, Option.bind_some, e0, e1, e2, e3, e4, e5, e6, e7, e8, e9, e10, e11, e12, e16]
        clear e0 e1 e2 e3 e4 e5 e6 e7 e8 e9 e10 e11 e12 e16
        simp only [Act.put, List.setIfInBounds_toArray, List.set_cons_succ, List.set_cons_zero]
        generalize v 13 = v13
        generalize v 14 = v14
        generalize v 15 = v15
        go_wp2
        go_roundw
        case rel => exact ⟨j + 1, v', rs ++ [q], hlt, by go_num, by rw [List.length_append, unhide HRS]; rfl, by rw [unhide HKX]; exact unhide HV⟩
        case measure =>
          simp only [intOf]
          omega
    · obtain rfl : j = 1 := by omega
      have hpe := H.pe
      have hpq := H.pq
      unfold exObj at hpe
      obtain ⟨y0, y1, y2, y3, y4, y5, y6, _⟩ := blk7 hpe
      obtain ⟨z0, z1, z2, z3, z4, z5, z6, zf⟩ := blk7 hpq
      obtain ⟨g, cap, hlv, _⟩ := nodeEnd (S := []) H (by omega) undef undef undef undef undef undef undef
      have HE := hide (fun v0 v1 v2 v3 v4 v5 v6 => nodeEnd (S := []) H (by omega) v0 v1 v2 v3 v4 v5 v6)
      subst hlv
      rw [hrs] at y6
      have hbl := H.below
      clear hpe hpq H
      go_wp2
      exact bodyPost_ret (v := R7.val ⟨12, false, 0, ⟨#[]⟩, ⟨#[]⟩, ⟨#[]⟩, some ⟨g, 0, none⟩, 1, cap⟩) (by simp [results, Tryz.results8, go_sem, z0, z1, z2, z3, z4, z5, z6, R7.val]) rfl ⟨_, rfl, set7S_below hbl (Nat.le_succ _) _ _ _ _ _ _ _, by
        obtain ⟨g', cap', e, hI⟩ := unhide HE _ _ _ _ _ _ _
        rw [hrs] at e hI
        cases e
        exact hI⟩

set_option maxHeartbeats 4000000 in
set_option maxRecDepth 1000000 in
theorem tree_k25 (d : Nat) (op n : Int) (s : List Int) (l : List Rw) (r : R4) (w : World) (hx : IsR w r (.mk op n s l)) (hd : d ≤ 1000) (hd1 : 1 ≤ d) (hl0 : 0 < l.length)
    (ih : ∀ (x : Rw) (r : R4) (w : World), IsR w r x → Calls Tryz.prog 8 #[r.val, .int .i64 d] w fun e w' => ∃ q : R7, e = .returned q.val ∧ Below w.heap.size w w' ∧ IsE w' (fun b => w.heap.size ≤ b) q (treeX d x)) (hk2 : 6 + op % 20 = 25) :
    Calls Tryz.prog 8 #[r.val, .int .i64 (d + 1 : Nat)] w fun e w' => ∃ q : R7, e = .returned q.val ∧ Below w.heap.size w w' ∧ IsE w' (fun b => w.heap.size ≤ b) q (.mk 25 false 0 [] [] [] (kidsX d l 3)) := by
  unfold IsR at hx
  obtain ⟨rfl, rfl, hsl, hs1, hs2, hz, hll, hl1, hks⟩ := hx
  have b2 := below2 w (.cells #[.int .i64 r.op, .int .i64 r.n, .slice r.so r.sl r.sc, .slice r.lo r.ll r.lc] 26) (.cells #[.int .i64 0, .bool false, .int .i64 0, .string ⟨#[]⟩, .string ⟨#[]⟩, .string ⟨#[]⟩, .slice none 0 0] 42)
  have Z1 : ((w.alloc (.cells #[.int .i64 r.op, .int .i64 r.n, .slice r.so r.sl r.sc, .slice r.lo r.ll r.lc] 26)).alloc (.cells #[.int .i64 0, .bool false, .int .i64 0, .string ⟨#[]⟩, .string ⟨#[]⟩, .string ⟨#[]⟩, .slice none 0 0] 42)).heap[w.heap.size]? = some (.cells #[.int .i64 r.op, .int .i64 r.n, .slice r.so r.sl r.sc, .slice r.lo r.ll r.lc] 26 (0, 0)) := kept_of_below (newS _ _) (alloc_heap _ _)
  have z2 : ((w.alloc (.cells #[.int .i64 r.op, .int .i64 r.n, .slice r.so r.sl r.sc, .slice r.lo r.ll r.lc] 26)).alloc (.cells #[.int .i64 0, .bool false, .int .i64 0, .string ⟨#[]⟩, .string ⟨#[]⟩, .string ⟨#[]⟩, .slice none 0 0] 42)).heap.size = w.heap.size + 2 := by simp
  have Z2 : ((w.alloc (.cells #[.int .i64 r.op, .int .i64 r.n, .slice r.so r.sl r.sc, .slice r.lo r.ll r.lc] 26)).alloc (.cells #[.int .i64 0, .bool false, .int .i64 0, .string ⟨#[]⟩, .string ⟨#[]⟩, .string ⟨#[]⟩, .slice none 0 0] 42)).heap[w.heap.size + 1]? = some (.cells #[.int .i64 0, .bool false, .int .i64 0, .string ⟨#[]⟩, .string ⟨#[]⟩, .string ⟨#[]⟩, .slice none 0 0] 42 (0, 0)) := by
    have h := alloc_heap (w.alloc (.cells #[.int .i64 r.op, .int .i64 r.n, .slice r.so r.sl r.sc, .slice r.lo r.ll r.lc] 26)) (.cells #[.int .i64 0, .bool false, .int .i64 0, .string ⟨#[]⟩, .string ⟨#[]⟩, .string ⟨#[]⟩, .slice none 0 0] 42)
    rw [show (w.alloc (.cells #[.int .i64 r.op, .int .i64 r.n, .slice r.so r.sl r.sc, .slice r.lo r.ll r.lc] 26)).heap.size = w.heap.size + 1 by simp] at h
    exact h
  have W20 := fun w' => within5_any r.op 20 (by decide) (by decide) w'
  have hk0 : r.op % 20 = 19 := by omega
  rw [hk0] at W20
  rw [hll] at b2 Z1 Z2 z2
  unfold R4.val at ih ⊢
  rw [hll]
  have HIH := hide ih
  have HKS := hide hks
  have HZ2 := hide z2
  clear hz hks hll hs1 hs2 hk0 hk2 ih z2 hsl
  have i1 : ¬ ((d + 1 : Nat) : Int) ≤ 1 := by omega
  have i2 : ((l.length : Int) == 0) = false := beq_false_of_ne (by omega)
  generalize hln : l.length = ln at *
  have HLN := hide hln
  clear hln
  go_enter Tryz.func8, Tryz.ntmps8
  go_upto_region 1 with fail
  generalize (w.alloc _).alloc _ = w2 at *
  obtain ⟨x0, x1, x2, x3, _⟩ := blk4 Z1
  go_wp2_with fail
  refine (W20 _).mono ?_
  rintro e w3 ⟨rfl, rfl⟩
  clear W20
  go_upto_region 4 with fail
  rw [unhide HZ2]
  have n4 := newS w3 (.cells #[.int .i64 25, .bool false, .int .i64 0, .string ⟨#[]⟩, .string ⟨#[]⟩, .string ⟨#[]⟩, .slice none 0 0] 42)
  have Z4 : (w3.alloc (.cells #[.int .i64 25, .bool false, .int .i64 0, .string ⟨#[]⟩, .string ⟨#[]⟩, .string ⟨#[]⟩, .slice none 0 0] 42)).heap[w.heap.size + 2]? = some (.cells #[.int .i64 25, .bool false, .int .i64 0, .string ⟨#[]⟩, .string ⟨#[]⟩, .string ⟨#[]⟩, .slice none 0 0] 42 (0, 0)) := by
    have h := alloc_heap w3 (.cells #[.int .i64 25, .bool false, .int .i64 0, .string ⟨#[]⟩, .string ⟨#[]⟩, .string ⟨#[]⟩, .slice none 0 0] 42)
    rw [unhide HZ2] at h
    exact h
  have INV : RowInv w (w3.alloc (.cells #[.int .i64 25, .bool false, .int .i64 0, .string ⟨#[]⟩, .string ⟨#[]⟩, .string ⟨#[]⟩, .slice none 0 0] 42)) (.cells #[.int .i64 r.op, .int .i64 r.n, .slice r.so r.sl r.sc, .slice r.lo ln r.lc] 26 (0, 0)) (.cells #[.int .i64 0, .bool false, .int .i64 0, .string ⟨#[]⟩, .string ⟨#[]⟩, .string ⟨#[]⟩, .slice none 0 0] 42 (0, 0)) 25 ⟨#[]⟩ (.slice none 0 0) (.slice none 0 0) [] [] :=
    ⟨b2.trans (n4.mono b2.size), kept_of_below n4 Z1, kept_of_below n4 Z2, Z4, World.ownsRow_nil _ _ _ _, .nil⟩
  generalize w3.alloc _ = w4 at *
  clear x0 x1 x2 x3 Z1 Z2 n4 b2
  obtain ⟨y0, y1, y2, y3, y4, y5, y6, _⟩ := blk7 Z4
  go_wp2_with fail
  clear y0 y1 y2 y3 y4 y5 y6 Z4
  go_loopw [7] (fun iv wr => ∃ (j : Nat) (lv : Value) (rs : List R7), j ≤ 3 ∧ iv = .int .i64 j ∧ rs.length = j ∧ RowInv w wr (.cells #[.int .i64 r.op, .int .i64 r.n, .slice r.so r.sl r.sc, .slice r.lo ln r.lc] 26 (0, 0)) (.cells #[.int .i64 0, .bool false, .int .i64 0, .string ⟨#[]⟩, .string ⟨#[]⟩, .string ⟨#[]⟩, .slice none 0 0] 42 (0, 0)) 25 ⟨#[]⟩ lv lv rs (kidsX d l j)) (fun iv _ => 3 - (intOf iv).toNat)
  case atStart => exact ⟨0, .slice none 0 0, [], Nat.zero_le _, rfl, rfl, INV⟩
  case round =>
    obtain ⟨j, lv, rs, hj, rfl, hrs, H⟩ := hrel
    by_cases hlt : j < 3
    · have i4 : (j : Int) < 3 := by omega
      have hml : j % l.length < l.length := Nat.mod_lt _ (by rw [unhide HLN]; exact hl0)
      obtain ⟨rk, g, off, hlo, hg, h7, hxk⟩ := IsRs.get l 0 (j % l.length) hml (unhide HKS)
      rw [Nat.zero_add] at h7
      have HKX := hide (kidsX_succ d l j hml)
      have CK := fun w' (hb : Below w.heap.size w w') => unhide HIH l[j % l.length] rk w' (IsR.below hb rk _ hxk)
      generalize treeX d l[j % l.length] = X at *
      obtain ⟨m, hm⟩ : ∃ m : Nat, m = j % l.length := ⟨_, rfl⟩
      have hmln : m < ln := by rw [hm, ← unhide HLN]; exact hml
      have hmod : (j : Int).tmod (ln : Int) = (m : Int) := by rw [hm, unhide HLN]; rfl
      rw [← hm] at h7
      generalize kidsX d l j = xs at *
      obtain ⟨lao, lcap, hlv⟩ := ownX_slice H.own
      have hi0 := info_parts infoExpr
      obtain ⟨i0, hi, hz0, hz1, hz2⟩ := hi0
      have HH := hide H
      have HLO := hide hlo
      have HLV := hide hlv
      clear hlo hlv
      have hbase := H.base
      have hrl : rs.length ≤ 8 := by omega
      have HRS := hide hrs
      clear hxk hml hm hrs H
      go_upto_region 21 with fail
      refine wp_specsB 17 (trSp w.heap.size (w.heap.size + 2) j d m g off lv (.slice r.lo ln r.lc) rk ln) (TRw w wr (.cells #[.int .i64 r.op, .int .i64 r.n, .slice r.so r.sl r.sc, .slice r.lo ln r.lc] 26 (0, 0)) (.cells #[.int .i64 0, .bool false, .int .i64 0, .string ⟨#[]⟩, .string ⟨#[]⟩, .string ⟨#[]⟩, .slice none 0 0] 42 (0, 0)) 25 ⟨#[]⟩ lv rs xs X) (by kernel_rfl) (by kernel_rfl) (by kernel_rfl) (TRw.start _) ?_ ?_ ?_
      · intro i o hi' ho L a' w' hL hw hR hdep hslot hsz K hK
        obtain ⟨hbw, hpr⟩ := hR.below (unhide HH)
        match i, hi' with
        | 0, _ =>
          cases ho
          have e : a'.tmps.getD 5 undef = .pointer (some ⟨w.heap.size + 2, 0, none⟩) := hslot 5 (by decide)
          unfold Oper.wp
          go_simp
          exact hK _ _ rfl (hR.other 0 54 _ (by decide) (by decide)) (fun _ _ h => h)
        | 1, _ =>
          cases ho
          have e : a'.tmps.getD 54 undef = .pointer (some ⟨w.heap.size + 2, 6, none⟩) := hdep 0 (by decide) (by kernel_rfl)
          have hp := hR.pre (hR.n15 (.inr (.inr hL)))
          have hpe := kept_of_below hp (unhide HH).pe
          unfold exObj at hpe
          obtain ⟨_, _, _, _, _, _, c6', _⟩ := blk7 hpe
          unfold Oper.wp
          go_simp
          exact hK _ _ rfl (hR.other 1 55 _ (by decide) (by decide)) (fun _ _ h => h)
        | 2, _ =>
          cases ho
          have e : a'.tmps.getD 2 undef = .pointer (some ⟨w.heap.size, 0, none⟩) := hslot 2 (by decide)
          unfold Oper.wp
          go_simp
          exact hK _ _ rfl (hR.other 2 56 _ (by decide) (by decide)) (fun _ _ h => h)
        | 3, _ =>
          cases ho
          have e : a'.tmps.getD 56 undef = .pointer (some ⟨w.heap.size, 3, none⟩) := hdep 2 (by decide) (by kernel_rfl)
          obtain ⟨_, _, _, c3', _⟩ := blk4 hpr
          unfold Oper.wp
          go_simp
          exact hK _ _ rfl (hR.other 3 57 _ (by decide) (by decide)) (fun _ _ h => h)
        | 4, _ =>
          cases ho
          have e : a'.tmps.getD 7 undef = .int .i64 j := hslot 7 (by decide)
          unfold Oper.wp
          go_simp
          exact hK _ _ rfl (hR.other 4 58 _ (by decide) (by decide)) (fun _ _ h => h)
        | 5, _ =>
          cases ho
          have e : a'.tmps.getD 2 undef = .pointer (some ⟨w.heap.size, 0, none⟩) := hslot 2 (by decide)
          unfold Oper.wp
          go_simp
          exact hK _ _ rfl (hR.other 5 59 _ (by decide) (by decide)) (fun _ _ h => h)
        | 6, _ =>
          cases ho
          have e : a'.tmps.getD 59 undef = .pointer (some ⟨w.heap.size, 3, none⟩) := hdep 5 (by decide) (by kernel_rfl)
          obtain ⟨_, _, _, c3', _⟩ := blk4 hpr
          unfold Oper.wp
          go_simp
          exact hK _ _ rfl (hR.other 6 60 _ (by decide) (by decide)) (fun _ _ h => h)
        | 7, _ =>
          cases ho
          have e : a'.tmps.getD 60 undef = .slice r.lo ln r.lc := hdep 6 (by decide) (by kernel_rfl)
          unfold Oper.wp
          go_simp
          exact hK _ _ rfl (hR.other 7 61 _ (by decide) (by decide)) (fun _ _ h => h)
        | 8, _ =>
          cases ho
          have e1 : a'.tmps.getD 58 undef = .int .i64 j := hdep 4 (by decide) (by kernel_rfl)
          have e2 : a'.tmps.getD 61 undef = .int .i64 ln := hdep 7 (by decide) (by kernel_rfl)
          have n0 : ¬ ln = 0 := by omega
          unfold Oper.wp
          go_simp
          exact hK _ _ rfl (hR.other 8 62 _ (by decide) (by decide)) (fun _ _ h => h)
        | 9, _ =>
          cases ho
          have e1 : a'.tmps.getD 57 undef = .slice r.lo ln r.lc := hdep 3 (by decide) (by kernel_rfl)
          have e2 : a'.tmps.getD 62 undef = .int .i64 m := hdep 8 (by decide) (by kernel_rfl)
          rw [unhide HLO] at e1
          have i5 : (m : Int) < (ln : Int) := by omega
          unfold Oper.wp
          go_simp
          exact hK _ _ rfl (hR.other 9 63 _ (by decide) (by decide)) (fun _ _ h => h)
        | 10, _ =>
          cases ho
          have e : a'.tmps.getD 63 undef = .pointer (some ⟨g, off + m * 4, none⟩) := hdep 9 (by decide) (by kernel_rfl)
          obtain ⟨y0, y1, y2, y3⟩ := h7.below hbw hg
          unfold Oper.wp
          go_simp
          exact hK _ _ rfl (hR.other 10 64 _ (by decide) (by decide)) (fun _ _ h => h)
        | 11, _ =>
          cases ho
          have e : a'.tmps.getD 1 undef = .int .i64 ((d : Int) + 1) := hslot 1 (by decide)
          unfold Oper.wp
          go_simp
          exact hK _ _ rfl (hR.other 11 65 _ (by decide) (by decide)) (fun _ _ h => h)
        | 12, _ =>
          cases ho
          have e : a'.tmps.getD 65 undef = .int .i64 ((d : Int) + 1) := hdep 11 (by decide) (by kernel_rfl)
          unfold Oper.wp
          go_simp
          exact hK _ _ (by unfold trSp; simp only [Value.int.injEq, true_and, IntKind.wrap_i64]; omega) (hR.other 12 66 _ (by decide) (by decide)) (fun _ _ h => h)
        | 13, _ =>
          cases ho
          have e1 : a'.tmps.getD 64 undef = rk.val := hdep 10 (by decide) (by kernel_rfl)
          have e2 : a'.tmps.getD 66 undef = .int .i64 d := hdep 12 (by decide) (by kernel_rfl)
          have C := CK w' hbw
          unfold R4.val at e1
          clear CK
          unfold Oper.wp
          go_simp
          refine C.mono ?_
          rintro e w3 ⟨q, rfl, b3, hq⟩
          exact hK _ _ trivial (hR.call hL (by rw [hsz]; exact Nat.le_of_ble_eq_true (by kernel_rfl)) b3 hq) trSp_up
        | 14, _ =>
          cases ho
          have h13 : L 13 = true := hw 13 (by kernel_rfl)
          obtain ⟨q, e1, hq⟩ := hR.k13 h13 (hR.n15 (.inr (.inl hL)))
          have B14 := hR.build hL h13 (by rw [hsz]; exact Nat.le_of_ble_eq_true (by kernel_rfl)) e1 hq
          unfold R7.val at e1
          have e1' : a'.tmps[67]?.getD undef = .agg #[.int .i64 q.k, .bool q.b, .int .i64 q.n, .string q.s, .string q.t, .string q.i, .slice q.lo q.ll q.lc] := by simpa using e1
          have HB := hide B14
          clear B14 hq hsz
          unfold Oper.wp
          go_simp
          exact hK _ _ trivial (unhide HB) trSp_up
        | 15, _ =>
          cases ho
          have h13 : L 13 = true := hw 13 (by kernel_rfl)
          have h14 : L 14 = true := hw 14 (by kernel_rfl)
          have h1 : L 1 = true := hw 1 (by kernel_rfl)
          obtain ⟨q, blk, e1, hblk, hc, hq⟩ := hR.k14 h14 hL
          have e2 : a'.tmps.getD 55 undef = lv := hdep 1 (by decide) (by kernel_rfl)
          have hp := hR.pre hL
          have hcell : ∀ jj u, q.cells[jj]? = some u → w'.cell? ((⟨blk, 0, none⟩ : Addr).add jj) = some u := by
            intro jj u hu
            rw [Addr.add_lit, Nat.zero_add, Lib.cell_of_heap hc]
            simpa [R7.cells] using hu
          obtain ⟨v', w'', hr, hown', hgr, _, hat⟩ := run_append_own_at (P := Tryz.prog) w' (w.heap.size + 3) 40 40 42 i0 _ 7 96 Tryz.underlying40 hi hz0 hz1 hz2 rfl (by decide) lv rs.length (cellsE rs) (owns_below hp (unhide HH).own) ⟨blk, 0, none⟩ 1 1 q.cells rfl hcell (cellE_one q) (by unfold maxLen; omega) (by omega) (by have := hp.size; omega)
          have hs : a'.eval (.tmp 55) = lv := e2
          have hx : a'.eval (.tmp 68) = .slice (some ⟨blk, 0, none⟩) 1 1 := e1
          unfold Oper.wp execOp
          simp only [resolve, invoke, builtin, Sem.run_bind, Sem.run_pure, Result.andThen_ok, List.map_toArray, List.map_cons, List.map_nil, hs, hx, hr]
          exact hK _ _ trivial (hR.app (unhide HH) hL h13 h14 h1 (by rw [hsz]; exact Nat.le_of_ble_eq_true (by kernel_rfl)) hq hown' hgr hat) trSp_up
        | 16, _ =>
          cases ho
          have e : a'.tmps.getD 5 undef = .pointer (some ⟨w.heap.size + 2, 0, none⟩) := hslot 5 (by decide)
          unfold Oper.wp
          go_simp
          exact hK _ _ rfl (hR.other 16 70 _ (by decide) (by decide)) (fun _ _ h => h)
        | i + 17, h => exact absurd h (by omega)
      · intro i o hi' ho L a' w' hL hw hR hdep K hK
        have : i = 17 := by
          have h := (List.getElem?_eq_some_iff.1 ho).1
          simp only [List.length_cons, List.length_nil] at h
          omega
        subst this
        cases ho
        have h15 : L 15 = true := hw 15 (by kernel_rfl)
        obtain ⟨v', q, e1, hi2⟩ := hR.k15 h15 hL
        have e2 : a'.tmps.getD 70 undef = .pointer (some ⟨w.heap.size + 2, 6, none⟩) := hdep 16 (by decide) (by kernel_rfl)
        have hST := hide (hR.store h15 hL e1)
        have hpe := hi2.pe
        unfold exObj at hpe
        obtain ⟨_, _, _, _, _, _, c6', cf⟩ := blk7 hpe
        obtain ⟨ao', cap', hv0⟩ := ownX_slice hi2.own
        have hv' : v' = .slice ao' (rs.length + 1) cap' := by rw [hv0, List.length_append]; rfl
        clear hv0
        subst hv'
        unfold Oper.wp
        go_simp
        exact hK _ (unhide hST) trSp_up undef
      · intro v L w5 hall hR hsp
        obtain ⟨v', q, hinv⟩ := hR.k17 (hall 17 (by decide))
        have HV := hide hinv
        have e0 : v 0 = _ := hsp 0 (by decide)
        have e1 : v 1 = _ := hsp 1 (by decide)
        have e2 : v 2 = _ := hsp 2 (by decide)
        have e3 : v 3 = _ := hsp 3 (by decide)
        have e4 : v 4 = _ := hsp 4 (by decide)
        have e5 : v 5 = _ := hsp 5 (by decide)
        have e6 : v 6 = _ := hsp 6 (by decide)
        have e7 : v 7 = _ := hsp 7 (by decide)
        have e8 : v 8 = _ := hsp 8 (by decide)
        have e9 : v 9 = _ := hsp 9 (by decide)
        have e10 : v 10 = _ := hsp 10 (by decide)
        have e11 : v 11 = _ := hsp 11 (by decide)
        have e12 : v 12 = _ := hsp 12 (by decide)
        have e16 : v 16 = _ := hsp 16 (by decide)
        clear hR hall hsp hinv CK
        simp only [putAll, dstOf, List.getElem?_cons_zero, List.getElem?_cons_succ, Option.bind_some, e0, e1, e2, e3, e4, e5, e6, e7, e8, e9, e10, e11, e12, e16]
        clear e0 e1 e2 e3 e4 e5 e6 e7 e8 e9 e10 e11 e12 e16
        simp only [Act.put, List.setIfInBounds_toArray, List.set_cons_succ, List.set_cons_zero]
        generalize v 13 = v13
        generalize v 14 = v14
        generalize v 15 = v15
        go_wp2
        go_roundw
        case rel => exact ⟨j + 1, v', rs ++ [q], hlt, by go_num, by rw [List.length_append, unhide HRS]; rfl, by rw [unhide HKX]; exact unhide HV⟩
        case measure =>
          simp only [intOf]
          omega
    · obtain rfl : j = 3 := by omega
      have hpe := H.pe
      have hpq := H.pq
      unfold exObj at hpe
      obtain ⟨y0, y1, y2, y3, y4, y5, y6, _⟩ := blk7 hpe
      obtain ⟨z0, z1, z2, z3, z4, z5, z6, zf⟩ := blk7 hpq
      obtain ⟨g, cap, hlv, _⟩ := nodeEnd (S := []) H (by omega) undef undef undef undef undef undef undef
      have HE := hide (fun v0 v1 v2 v3 v4 v5 v6 => nodeEnd (S := []) H (by omega) v0 v1 v2 v3 v4 v5 v6)
      subst hlv
      rw [hrs] at y6
      have hbl := H.below
      clear hpe hpq H
      go_wp2
      exact bodyPost_ret (v := R7.val ⟨25, false, 0, ⟨#[]⟩, ⟨#[]⟩, ⟨#[]⟩, some ⟨g, 0, none⟩, 3, cap⟩) (by simp [results, Tryz.results8, go_sem, z0, z1, z2, z3, z4, z5, z6, R7.val]) rfl ⟨_, rfl, set7S_below hbl (Nat.le_succ _) _ _ _ _ _ _ _, by
        obtain ⟨g', cap', e, hI⟩ := unhide HE _ _ _ _ _ _ _
        rw [hrs] at e hI
        cases e
        exact hI⟩
end Go.Proofs.YtacljmckohbjaaaGreat
