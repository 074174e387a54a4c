/-
  chancellaw5.leaf: what it returns.
  chancellaw5.Tree: how a node's row of kids grows (no walk in it).
  chancellaw5.Tree: what it returns.
-/
import Derived.Test.YtagnbpobcijakaaRwAL
import Derived.Test.YtagnbpobcijakaaTyRK
import Derived.Test.YtagnbpobcijakaaVeKN
namespace Go.Proofs.Ytagnbpobcijakaa
open Go.RowKit Go.Sort

def vr3 : List (List UInt8) := [[112, 114, 105, 110, 99, 105, 112, 97, 108], [97, 99, 116, 105, 111, 110], [114, 101, 115, 111, 117, 114, 99, 101]]
def vrI (n : Int) : List UInt8 := vr3.getD (n % 3).toNat []
theorem vr_cell (m : Nat) (hm : m < 3) : (#[.string ⟨#[112, 114, 105, 110, 99, 105, 112, 97, 108]⟩, .string ⟨#[97, 99, 116, 105, 111, 110]⟩, .string ⟨#[114, 101, 115, 111, 117, 114, 99, 101]⟩] : Array Value)[m]? = some (.string (ba (vr3.getD m []))) := by
  match m, hm with
  | 0, _ | 1, _ | 2, _ => rfl
/-- A leaf, as the law makes it. -/
def leafR (k : Int) (n : Int) (s : List Int) : R7 :=
  if k = 0 then ⟨1, n.tmod 2 == 0, 0, ⟨#[]⟩, ⟨#[]⟩, ⟨#[]⟩, none, 0, 0⟩ else if k = 1 then ⟨2, false, n % 4611686018427387904, ⟨#[]⟩, ⟨#[]⟩, ⟨#[]⟩, none, 0, 0⟩ else if k = 2 then ⟨3, false, 0, ba (idt5 s), ⟨#[]⟩, ⟨#[]⟩, none, 0, 0⟩ else if k = 3 then ⟨4, false, 0, ⟨#[]⟩, ba (tyI5 n), ba (idt5 s), none, 0, 0⟩ else if k = 4 then ⟨5, false, 0, ba (vrI n), ⟨#[]⟩, ⟨#[]⟩, none, 0, 0⟩ else ⟨6, false, 0, ⟨#[]⟩, ⟨#[]⟩, ⟨#[]⟩, none, 0, 0⟩
def leafX (k : Int) (n : Int) (s : List Int) : Ex :=
  if k = 0 then eBool (n.tmod 2 == 0) else if k = 1 then eLong (n % 4611686018427387904) else if k = 2 then eStr (idt5 s) else if k = 3 then eUid (tyI5 n) (idt5 s) else if k = 4 then eVar (vrI n) else eOp 6 []
theorem leaf_is (k n : Int) (s : List Int) (w : World) (P : Nat → Prop) : IsE w P (leafR k n s) (leafX k n s) := by
  unfold leafR leafX
  repeat' split
  all_goals
    first | unfold eBool | unfold eLong | unfold eStr | unfold eUid | unfold eVar | unfold eOp
    unfold IsE IsEs
    exact ⟨rfl, rfl, rfl, rfl, rfl, rfl, rfl, trivial⟩

set_option maxHeartbeats 4000000 in
set_option maxRecDepth 1000000 in
theorem leaf5_any (r : R4) (s : List Int) (w : World) (hl : s.length ≤ 9223372036854775807) (hsl : r.sl = s.length) (hc : s.length ≤ r.sc) (hz : IntsAt w r.so s) :
    Calls Try.prog 26 #[r.val] w fun e w' => e = .returned (leafR (r.op % 6) r.n s).val ∧ Below w.heap.size w w' := by
  have W6 := fun w' => within5_any r.op 6 (by decide) (by decide) w'
  have hk0 : r.op % 6 = 0 ∨ r.op % 6 = 1 ∨ r.op % 6 = 2 ∨ r.op % 6 = 3 ∨ r.op % 6 = 4 ∨ r.op % 6 = 5 := by omega
  have b2 := below2 w (.cells #[.int .i64 r.op, .int .i64 r.n, .slice r.so r.sl r.sc, .slice r.lo r.ll r.lc] 27) (.cells #[.int .i64 0, .bool false, .int .i64 0, .string ⟨#[]⟩, .string ⟨#[]⟩, .string ⟨#[]⟩, .slice none 0 0] 39)
  have Z1 : ((w.alloc (.cells #[.int .i64 r.op, .int .i64 r.n, .slice r.so r.sl r.sc, .slice r.lo r.ll r.lc] 27)).alloc (.cells #[.int .i64 0, .bool false, .int .i64 0, .string ⟨#[]⟩, .string ⟨#[]⟩, .string ⟨#[]⟩, .slice none 0 0] 39)).heap[w.heap.size]? = some (.cells #[.int .i64 r.op, .int .i64 r.n, .slice r.so r.sl r.sc, .slice r.lo r.ll r.lc] 27 (0, 0)) := kept_of_below (newS _ _) (alloc_heap _ _)
  have Z2 : ((w.alloc (.cells #[.int .i64 r.op, .int .i64 r.n, .slice r.so r.sl r.sc, .slice r.lo r.ll r.lc] 27)).alloc (.cells #[.int .i64 0, .bool false, .int .i64 0, .string ⟨#[]⟩, .string ⟨#[]⟩, .string ⟨#[]⟩, .slice none 0 0] 39)).heap[w.heap.size + 1]? = some (.cells #[.int .i64 0, .bool false, .int .i64 0, .string ⟨#[]⟩, .string ⟨#[]⟩, .string ⟨#[]⟩, .slice none 0 0] 39 (0, 0)) := by
    have h := alloc_heap (w.alloc (.cells #[.int .i64 r.op, .int .i64 r.n, .slice r.so r.sl r.sc, .slice r.lo r.ll r.lc] 27)) (.cells #[.int .i64 0, .bool false, .int .i64 0, .string ⟨#[]⟩, .string ⟨#[]⟩, .string ⟨#[]⟩, .slice none 0 0] 39)
    rw [show (w.alloc (.cells #[.int .i64 r.op, .int .i64 r.n, .slice r.so r.sl r.sc, .slice r.lo r.ll r.lc] 27)).heap.size = w.heap.size + 1 by simp] at h
    exact h
  have hz2 := hz.below b2
  rw [hsl] at b2 Z1 Z2 hz2
  unfold R4.val
  rw [hsl]
  rcases hk0 with hk | hk | hk | hk | hk | hk
  · rw [hk] at W6 ⊢
    have hv : leafR 0 r.n s = ⟨1, r.n.tmod 2 == 0, 0, ⟨#[]⟩, ⟨#[]⟩, ⟨#[]⟩, none, 0, 0⟩ := rfl
    rw [hv]
    clear hv hk
    go_enter Try.func26, Try.ntmps26
    go_upto_region 1 with fail
    generalize (w.alloc _).alloc _ = w2 at *
    obtain ⟨x0, x1, x2, x3, _⟩ := blk4 Z1
    obtain ⟨y0, y1, y2, y3, y4, y5, y6, yf⟩ := blk7 Z2
    go_wp2_with fail
    refine (W6 _).mono ?_
    rintro e w3 ⟨rfl, rfl⟩
    clear W6
    go_wp2
    exact bodyPost_ret (v := R7.val _) (by simp [results, Try.results26, go_sem, y0, y1, y2, y3, y4, y5, y6, R7.val]) rfl ⟨rfl, set7S_below b2 (Nat.le_succ _) _ _ _ _ _ _ _⟩
  · rw [hk] at W6 ⊢
    have hv : leafR 1 r.n s = ⟨2, false, r.n % 4611686018427387904, ⟨#[]⟩, ⟨#[]⟩, ⟨#[]⟩, none, 0, 0⟩ := rfl
    rw [hv]
    clear hv hk
    have WN := fun w' => within62_any r.n 4611686018427387904 (by decide) (by decide) w'
    go_enter Try.func26, Try.ntmps26
    go_upto_region 1 with fail
    generalize (w.alloc _).alloc _ = w2 at *
    obtain ⟨x0, x1, x2, x3, _⟩ := blk4 Z1
    obtain ⟨y0, y1, y2, y3, y4, y5, y6, yf⟩ := blk7 Z2
    go_wp2_with fail
    refine (W6 _).mono ?_
    rintro e w3 ⟨rfl, rfl⟩
    clear W6
    go_wp2_with fail
    refine (WN _).mono ?_
    rintro e w4 ⟨rfl, rfl⟩
    clear WN
    go_wp2
    exact bodyPost_ret (v := R7.val _) (by simp [results, Try.results26, go_sem, y0, y1, y2, y3, y4, y5, y6, R7.val]) rfl ⟨rfl, set7S_below b2 (Nat.le_succ _) _ _ _ _ _ _ _⟩
  · rw [hk] at W6 ⊢
    have hv : leafR 2 r.n s = ⟨3, false, 0, ba (idt5 s), ⟨#[]⟩, ⟨#[]⟩, none, 0, 0⟩ := rfl
    rw [hv]
    clear hv hk
    have ID := id5_any s r.so r.sc _ hl hc hz2
    generalize ba (idt5 s) = X at *
    go_enter Try.func26, Try.ntmps26
    go_upto_region 1 with fail
    generalize (w.alloc _).alloc _ = w2 at *
    obtain ⟨x0, x1, x2, x3, _⟩ := blk4 Z1
    obtain ⟨y0, y1, y2, y3, y4, y5, y6, yf⟩ := blk7 Z2
    go_wp2_with fail
    refine (W6 _).mono ?_
    rintro e w3 ⟨rfl, rfl⟩
    clear W6
    go_wp2_with fail
    refine ID.mono ?_
    rintro e w4 ⟨rfl, b4⟩
    have b04 := b2.trans (b4.mono b2.size)
    clear x0 x1 x2 x3 y0 y1 y2 y3 y4 y5 y6 yf ID
    obtain ⟨y0, y1, y2, y3, y4, y5, y6, yf⟩ := blk7 (kept_of_below b4 Z2)
    go_wp2
    exact bodyPost_ret (v := R7.val _) (by simp [results, Try.results26, go_sem, y0, y1, y2, y3, y4, y5, y6, R7.val]) rfl ⟨rfl, set7S_below b04 (Nat.le_succ _) _ _ _ _ _ _ _⟩
  · rw [hk] at W6 ⊢
    have hv : leafR 3 r.n s = ⟨4, false, 0, ⟨#[]⟩, ba (tyI5 r.n), ba (idt5 s), none, 0, 0⟩ := rfl
    rw [hv]
    clear hv hk
    have ID := uid5_any r.n s r.so r.sc _ hl hc hz2
    generalize ba (idt5 s) = X at *
    generalize ba (tyI5 r.n) = Y at *
    go_enter Try.func26, Try.ntmps26
    go_upto_region 1 with fail
    generalize (w.alloc _).alloc _ = w2 at *
    obtain ⟨x0, x1, x2, x3, _⟩ := blk4 Z1
    obtain ⟨y0, y1, y2, y3, y4, y5, y6, yf⟩ := blk7 Z2
    go_wp2_with fail
    refine (W6 _).mono ?_
    rintro e w3 ⟨rfl, rfl⟩
    clear W6
    go_wp2_with fail
    refine ID.mono ?_
    rintro e w4 ⟨rfl, b4⟩
    have b04 := b2.trans (b4.mono b2.size)
    clear x0 x1 x2 x3 y0 y1 y2 y3 y4 y5 y6 yf ID
    obtain ⟨y0, y1, y2, y3, y4, y5, y6, yf⟩ := blk7 (kept_of_below b4 Z2)
    go_wp2
    exact bodyPost_ret (v := R7.val _) (by simp [results, Try.results26, go_sem, y0, y1, y2, y3, y4, y5, y6, R7.val]) rfl ⟨rfl, set7S_below b04 (Nat.le_succ _) _ _ _ _ _ _ _⟩
  · rw [hk] at W6 ⊢
    obtain ⟨m, hm⟩ : ∃ m : Nat, (m : Int) = r.n % 3 := ⟨(r.n % 3).toNat, by omega⟩
    have hm3 : m < 3 := by omega
    have W3 := fun w' => within5_any r.n 3 (by decide) (by decide) w'
    rw [← hm] at W3
    have hvi : vrI r.n = vr3.getD m [] := by unfold vrI; rw [← hm]; rfl
    have hv : leafR 4 r.n s = ⟨5, false, 0, ba (vrI r.n), ⟨#[]⟩, ⟨#[]⟩, none, 0, 0⟩ := rfl
    rw [hv, hvi]
    have hcell := vr_cell m hm3
    generalize ba (vr3.getD m []) = X at *
    have i1 : (m : Int) < 3 := by omega
    clear hv hk hvi hm
    go_enter Try.func26, Try.ntmps26
    go_upto_region 1 with fail
    generalize (w.alloc _).alloc _ = w2 at *
    obtain ⟨x0, x1, x2, x3, _⟩ := blk4 Z1
    obtain ⟨y0, y1, y2, y3, y4, y5, y6, yf⟩ := blk7 Z2
    go_wp2_with fail
    refine (W6 _).mono ?_
    rintro e w3 ⟨rfl, rfl⟩
    clear W6
    have n4 := newS w3 (.cells #[.string ⟨#[112, 114, 105, 110, 99, 105, 112, 97, 108]⟩, .string ⟨#[97, 99, 116, 105, 111, 110]⟩, .string ⟨#[114, 101, 115, 111, 117, 114, 99, 101]⟩] 9)
    have Z4 : (w3.alloc (.cells #[.string ⟨#[112, 114, 105, 110, 99, 105, 112, 97, 108]⟩, .string ⟨#[97, 99, 116, 105, 111, 110]⟩, .string ⟨#[114, 101, 115, 111, 117, 114, 99, 101]⟩] 9)).heap[w3.heap.size]? = some (.cells #[.string ⟨#[112, 114, 105, 110, 99, 105, 112, 97, 108]⟩, .string ⟨#[97, 99, 116, 105, 111, 110]⟩, .string ⟨#[114, 101, 115, 111, 117, 114, 99, 101]⟩] 9 (0, 0)) := alloc_heap _ _
    have c4 : (w3.alloc (.cells #[.string ⟨#[112, 114, 105, 110, 99, 105, 112, 97, 108]⟩, .string ⟨#[97, 99, 116, 105, 111, 110]⟩, .string ⟨#[114, 101, 115, 111, 117, 114, 99, 101]⟩] 9)).cell? ⟨w3.heap.size, m, none⟩ = some (.string X) := by rw [Lib.cell_of_heap Z4]; exact hcell
    have b04 := b2.trans (n4.mono b2.size)
    have Z1' := kept_of_below n4 Z1
    have Z2' := kept_of_below n4 Z2
    have hlt1 := (Array.getElem?_eq_some_iff.1 Z2).1
    have hlt0 : w.heap.size < w3.heap.size := by omega
    obtain ⟨x0', x1', x2', x3', _⟩ := blk4 Z1'
    go_wp2_with fail
    generalize w3.alloc _ = w4 at *
    refine (W3 _).mono ?_
    rintro e w5 ⟨rfl, rfl⟩
    clear W3 x0 x1 x2 x3 y0 y1 y2 y3 y4 y5 y6 yf
    obtain ⟨y0, y1, y2, y3, y4, y5, y6, yf⟩ := blk7 Z2'
    go_wp2
    exact bodyPost_ret (v := R7.val _) (by simp [results, Try.results26, go_sem, y0, y1, y2, y3, y4, y5, y6, R7.val]) rfl ⟨rfl, set7S_below b04 (Nat.le_succ _) _ _ _ _ _ _ _⟩
  · rw [hk] at W6 ⊢
    have hv : leafR 5 r.n s = ⟨6, false, 0, ⟨#[]⟩, ⟨#[]⟩, ⟨#[]⟩, none, 0, 0⟩ := rfl
    rw [hv]
    clear hv hk
    go_enter Try.func26, Try.ntmps26
    go_upto_region 1 with fail
    generalize (w.alloc _).alloc _ = w2 at *
    obtain ⟨x0, x1, x2, x3, _⟩ := blk4 Z1
    obtain ⟨y0, y1, y2, y3, y4, y5, y6, yf⟩ := blk7 Z2
    go_wp2_with fail
    refine (W6 _).mono ?_
    rintro e w3 ⟨rfl, rfl⟩
    clear W6
    go_wp2
    exact bodyPost_ret (v := R7.val _) (by simp [results, Try.results26, go_sem, y0, y1, y2, y3, y4, y5, y6, R7.val]) rfl ⟨rfl, set7S_below b2 (Nat.le_succ _) _ _ _ _ _ _ _⟩
end Go.Proofs.Ytagnbpobcijakaa

namespace Go.Proofs.Ytagnbpobcijakaa
open Go.RowKit Go.Sort

def exObj (k : Int) (S : ByteArray) (lv : Value) : Obj := .cells #[.int .i64 k, .bool false, .int .i64 0, .string S, .string ⟨#[]⟩, .string ⟨#[]⟩, lv] 39 (0, 0)
/-- What lies in memory while a node is made: the raw, the answer's cells, the node with its list lc, the row v. -/
structure RowInv (w w' : World) (raw ans : Obj) (k : Int) (S : ByteArray) (lc v : Value) (rs : List R7) (xs : List Ex) : Prop where
  below : Below w.heap.size w w'
  pr : w'.heap[w.heap.size]? = some raw
  pq : w'.heap[w.heap.size + 1]? = some ans
  pe : w'.heap[w.heap.size + 2]? = some (exObj k S lc)
  own : w'.ownsRow (w.heap.size + 3) 39 7 v rs.length (cellsE rs)
  all : AllE w' (fun b => w.heap.size + 3 ≤ b ∧ some b ≠ v.ownBlock) rs xs
theorem RowInv.base {w w' : World} {raw ans : Obj} {k : Int} {S : ByteArray} {lc v : Value} {rs : List R7} {xs : List Ex} (h : RowInv w w' raw ans k S lc v rs xs) : w.heap.size + 3 ≤ w'.heap.size := (Array.getElem?_eq_some_iff.1 h.pe).1
theorem ownE_slice {w : World} {B : Nat} {v : Value} {n : Nat} {xs : List Value} (h : w.ownsRow B 39 7 v n xs) : ∃ ao cap, v = .slice ao n cap := by
  rcases h.2 with ⟨h0, hz⟩ | ⟨g, cap, cur, hv, _⟩
  · exact ⟨none, 0, by rw [h0, hz]⟩
  · exact ⟨_, cap, hv⟩
theorem RowInv.row {w w' : World} {raw ans : Obj} {k : Int} {S : ByteArray} {lc v : Value} {rs : List R7} {xs : List Ex} (h : RowInv w w' raw ans k S lc v rs xs) : ∀ b, v.ownBlock = some b → w.heap.size + 3 ≤ b ∧ b < w'.heap.size := fun b e => h.own.lt b e

/-- The state of the region that makes one more kid and appends it. -/
structure TRw (w wr : World) (raw ans : Obj) (k : Int) (S : ByteArray) (lv : Value) (rs : List R7) (xs : List Ex) (X : Ex) (L : Nat → Bool) (a' : Act) (w' : World) : Prop where
  pre : L 15 = false → Below wr.heap.size wr w'
  k13 : L 13 = true → L 15 = false → ∃ q : R7, a'.tmps.getD 67 undef = q.val ∧ IsE w' (fun b => wr.heap.size ≤ b) q X
  k14 : L 14 = true → L 15 = false → ∃ (q : R7) (blk : Nat), a'.tmps.getD 68 undef = .slice (some ⟨blk, 0, none⟩) 1 1 ∧ wr.heap.size ≤ blk ∧ w'.heap[blk]? = some (.cells #[.int .i64 q.k, .bool q.b, .int .i64 q.n, .string q.s, .string q.t, .string q.i, .slice q.lo q.ll q.lc] 39 (0, 0)) ∧ IsE w' (fun b => wr.heap.size ≤ b) q X
  k15 : L 15 = true → L 17 = false → ∃ (v : Value) (q : R7), a'.tmps.getD 69 undef = v ∧ RowInv w w' raw ans k S lv v (rs ++ [q]) (xs ++ [X])
  k17 : L 17 = true → ∃ (v : Value) (q : R7), RowInv w w' raw ans k S v v (rs ++ [q]) (xs ++ [X])
  d14 : L 14 = true → L 13 = true
  d15 : L 15 = true → L 13 = true ∧ L 14 = true ∧ L 1 = true
  d17 : L 17 = true → L 15 = true

section
variable {w wr : World} {raw ans : Obj} {k : Int} {S : ByteArray} {lv : Value} {rs : List R7} {xs : List Ex} {X : Ex} {L : Nat → Bool} {a' : Act} {w' : World}
theorem TRw.start (a : Act) : TRw w wr raw ans k S lv rs xs X (fun _ => false) a wr.drew :=
  ⟨fun _ => (Below.refl _ wr).drew, fun h => (by cases h), fun h => (by cases h), fun h => (by cases h), fun h => (by cases h), fun h => (by cases h), fun h => (by cases h), fun h => (by cases h)⟩
theorem TRw.n17 (h : TRw w wr raw ans k S lv rs xs X L a' w') (hL : L 15 = false) : L 17 = false := by
  cases e : L 17 with
  | false => rfl
  | true => rw [h.d17 e] at hL; cases hL
theorem TRw.n15 (h : TRw w wr raw ans k S lv rs xs X L a' w') (hL : L 13 = false ∨ L 14 = false ∨ L 1 = false) : L 15 = false := by
  cases e : L 15 with
  | false => rfl
  | true =>
    obtain ⟨h1, h2, h3⟩ := h.d15 e
    rcases hL with hL | hL | hL
    · rw [h1] at hL; cases hL
    · rw [h2] at hL; cases hL
    · rw [h3] at hL; cases hL
theorem TRw.below (h : TRw w wr raw ans k S lv rs xs X L a' w') (h0 : RowInv w wr raw ans k S lv lv rs xs) : Below w.heap.size w w' ∧ w'.heap[w.heap.size]? = some raw := by
  cases e : L 15 with
  | false =>
    have hb := h.pre e
    exact ⟨h0.below.trans (hb.mono h0.below.size), kept_of_below hb h0.pr⟩
  | true =>
    cases e2 : L 17 with
    | false => obtain ⟨v, q, _, h2⟩ := h.k15 e e2; exact ⟨h2.below, h2.pr⟩
    | true => obtain ⟨v, q, h2⟩ := h.k17 e2; exact ⟨h2.below, h2.pr⟩
theorem TRw.other (h : TRw w wr raw ans k S lv rs xs X L a' w') (i d : Nat) (v : Value) (hi : i ≠ 13 ∧ i ≠ 14 ∧ i ≠ 15 ∧ i ≠ 17) (hd : d ≠ 67 ∧ d ≠ 68 ∧ d ≠ 69) : TRw w wr raw ans k S lv rs xs X (fun j => decide (j = i) || L j) (a'.put (some d) v) w' := by
  have e13 : (decide (13 = i) || L 13) = L 13 := by rw [decide_eq_false (fun e => hi.1 e.symm)]; rfl
  have e14 : (decide (14 = i) || L 14) = L 14 := by rw [decide_eq_false (fun e => hi.2.1 e.symm)]; rfl
  have e15 : (decide (15 = i) || L 15) = L 15 := by rw [decide_eq_false (fun e => hi.2.2.1 e.symm)]; rfl
  have e17 : (decide (17 = i) || L 17) = L 17 := by rw [decide_eq_false (fun e => hi.2.2.2 e.symm)]; rfl
  refine ⟨?_, ?_, ?_, ?_, ?_, ?_, ?_, ?_⟩ <;> simp only [e13, e14, e15, e17, put_other _ _ _ _ hd.1, put_other _ _ _ _ hd.2.1, put_other _ _ _ _ hd.2.2]
  · exact h.pre
  · exact h.k13
  · exact h.k14
  · exact h.k15
  · exact h.k17
  · exact h.d14
  · exact fun e => ⟨(h.d15 e).1, (h.d15 e).2.1, by rw [(h.d15 e).2.2]; simp⟩
  · exact h.d17
theorem TRw.call (h : TRw w wr raw ans k S lv rs xs X L a' w') (hL : L 13 = false) (hs : 67 < a'.tmps.size) {w'' : World} {q : R7} (hb : Below w'.heap.size w' w'') (hq : IsE w'' (fun b => w'.heap.size ≤ b) q X) : TRw w wr raw ans k S lv rs xs X (fun j => decide (j = 13) || L j) (a'.put (some 67) q.val) w'' := by
  have n15 := h.n15 (.inl hL)
  have n17 := h.n17 n15
  have n14 : L 14 = false := by
    cases e : L 14 with
    | false => rfl
    | true => rw [h.d14 e] at hL; cases hL
  have hp := h.pre n15
  refine ⟨fun _ => hp.trans (hb.mono hp.size), fun _ _ => ⟨q, put_same _ _ _ hs, ?_⟩, fun e _ => ?_, fun e => ?_, fun e => ?_, fun _ => by simp, fun e => ?_, fun e => ?_⟩
  · exact IsE.turn (Nat.le_refl _) (fun b hb' _ => ⟨rfl, Nat.le_trans hp.size hb'⟩) q X hq
  · simp [n14] at e
  · simp [n15] at e
  · simp [n17] at e
  · simp [n15] at e
  · simp [n17] at e
theorem TRw.build (h : TRw w wr raw ans k S lv rs xs X L a' w') (hL : L 14 = false) (h13 : L 13 = true) (hs : 68 < a'.tmps.size) {q : R7} (hq0 : a'.tmps.getD 67 undef = q.val) (hq : IsE w' (fun b => wr.heap.size ≤ b) q X) :
    TRw w wr raw ans k S lv rs xs X (fun j => decide (j = 14) || L j) (a'.put (some 68) (.slice (some ⟨w'.heap.size, 0, none⟩) 1 1)) (w'.alloc (.cells #[.int .i64 q.k, .bool q.b, .int .i64 q.n, .string q.s, .string q.t, .string q.i, .slice q.lo q.ll q.lc] 39)) := by
  have n15 := h.n15 (.inr (.inl hL))
  have n17 := h.n17 n15
  have hp := h.pre n15
  have n := newS w' (.cells #[.int .i64 q.k, .bool q.b, .int .i64 q.n, .string q.s, .string q.t, .string q.i, .slice q.lo q.ll q.lc] 39)
  have hq' := IsE.turn n.size (fun b hb' hb2 => ⟨n.block b hb2, hb'⟩) q X hq
  refine ⟨fun _ => hp.trans (n.mono hp.size), fun _ _ => ⟨q, by rw [put_other _ _ _ _ (by decide)]; exact hq0, hq'⟩, fun _ _ => ⟨q, w'.heap.size, put_same _ _ _ hs, hp.size, alloc_heap _ _, hq'⟩, fun e => ?_, fun e => ?_, fun _ => by simp [h13], fun e => ?_, fun e => ?_⟩
  · simp [n15] at e
  · simp [n17] at e
  · simp [n15] at e
  · simp [n17] at e
theorem TRw.app (h0 : RowInv w wr raw ans k S lv lv rs xs) (h : TRw w wr raw ans k S lv rs xs X L a' w') (hL : L 15 = false) (h13 : L 13 = true) (h14 : L 14 = true) (h1 : L 1 = true) (hs : 69 < a'.tmps.size) {q : R7} (hq : IsE w' (fun b => wr.heap.size ≤ b) q X)
    {v : Value} {w'' : World} (hown : w''.ownsRow (w.heap.size + 3) 39 7 v (rs.length + 1) (cellsE rs ++ q.cells)) (hg : w'.grownBy w'' lv.ownBlock) (hat : v.ownBlock = lv.ownBlock ∨ v.ownBlock = some w'.heap.size) :
    TRw w wr raw ans k S lv rs xs X (fun j => decide (j = 15) || L j) (a'.put (some 69) v) w'' := by
  have n17 := h.n17 hL
  have hp := h.pre hL
  have hbase := h0.base
  have hsz := hp.size
  have hrow := h0.row
  have hsame : ∀ b, b < w'.heap.size → lv.ownBlock ≠ some b → w''.heap[b]? = w'.heap[b]? := fun b hb hne => hg.block b hb (fun e => hne e.symm)
  have hold : ∀ b, b < w.heap.size + 3 → w''.heap[b]? = wr.heap[b]? := fun b hb => by
    rw [hsame b (by omega) (fun e => by have := (hrow b e).1; omega)]
    exact hp.block b (by omega)
  have hne : ∀ b, b < w'.heap.size → lv.ownBlock ≠ some b → some b ≠ v.ownBlock := by
    intro b hb hbg e
    rcases hat with h1 | h1
    · rw [h1] at e
      exact hbg e.symm
    · rw [h1] at e
      have hb3 := Option.some.inj e
      omega
  have hinv : RowInv w w'' raw ans k S lv v (rs ++ [q]) (xs ++ [X]) := by
    refine ⟨?_, (hold _ (by omega)).trans h0.pr, (hold _ (by omega)).trans h0.pq, (hold _ (by omega)).trans h0.pe, ?_, .snoc ?_ ?_⟩
    · have hb := h0.below.trans (hp.mono h0.below.size)
      exact hb.grown hg hb.size (fun b e => by have := (hrow b e).1; omega)
    · rw [cellsE_snoc, List.length_append]
      exact hown
    · refine AllE.turn (by have := hg.size; omega) (fun b hb hb2 => ?_) h0.all
      have hnb : lv.ownBlock ≠ some b := fun e => hb.2 e.symm
      exact ⟨(hsame b (by omega) hnb).trans (hp.block b hb2), hb.1, hne b (by omega) hnb⟩
    · refine IsE.turn hg.size (fun b hb hb2 => ?_) q X hq
      have hnb : lv.ownBlock ≠ some b := fun e => by have := (hrow b e).2; omega
      exact ⟨hsame b hb2 hnb, by omega, hne b hb2 hnb⟩
  refine ⟨fun e => ?_, fun _ e => ?_, fun _ e => ?_, fun _ _ => ⟨v, q, put_same _ _ _ hs, hinv⟩, fun e => ?_, fun _ => by simp [h13], fun _ => by simp [h13, h14, h1], fun e => ?_⟩
  · simp at e
  · simp at e
  · simp at e
  · simp [n17] at e
  · simp [n17] at e
theorem TRw.store (h : TRw w wr raw ans k S lv rs xs X L a' w') (h15 : L 15 = true) (hL : L 17 = false) {v : Value} (hv : a'.tmps.getD 69 undef = v) : TRw w wr raw ans k S lv rs xs X (fun j => decide (j = 17) || L j) a' (w'.setCell ⟨w.heap.size + 2, 6, none⟩ v) := by
  obtain ⟨v', q, hv', hi⟩ := h.k15 h15 hL
  rw [hv] at hv'
  subst hv'
  have hbase := hi.base
  have hold : ∀ b, b ≠ w.heap.size + 2 → (w'.setCell ⟨w.heap.size + 2, 6, none⟩ v).heap[b]? = w'.heap[b]? := fun b hb => Below.heap_setCell _ _ _ _ hb
  have hinv : RowInv w (w'.setCell ⟨w.heap.size + 2, 6, none⟩ v) raw ans k S v v (rs ++ [q]) (xs ++ [X]) := by
    refine ⟨hi.below.setCell (p := ⟨w.heap.size + 2, 6, none⟩) (by show w.heap.size ≤ w.heap.size + 2; omega) _, (hold _ (by omega)).trans hi.pr, (hold _ (by omega)).trans hi.pq, ?_, ?_, ?_⟩
    · have := hi.pe
      unfold exObj at this ⊢
      simp [World.setCell, Array.getElem?_modify, this]
    · refine ⟨hi.own.1, ?_⟩
      rcases hi.own.2 with h0 | ⟨g, cap, cur, hv, hbg, hg, rest⟩
      · exact .inl h0
      · exact .inr ⟨g, cap, cur, hv, hbg, (hold g (by omega)).trans hg, rest⟩
    · exact AllE.turn (by simp [World.setCell]) (fun b hb hb2 => ⟨hold b (by omega), hb⟩) hi.all
  refine ⟨fun e => ?_, fun _ e => ?_, fun _ e => ?_, fun _ e => ?_, fun _ => ⟨v, q, hinv⟩, fun _ => ?_, fun _ => ?_, fun _ => by simp [h15]⟩
  · simp [h15] at e
  · simp [h15] at e
  · simp [h15] at e
  · simp at e
  · have := h.d15 h15
    simp [this.1]
  · have := h.d15 h15
    simp [this.1, this.2.1, this.2.2]
end
end Go.Proofs.Ytagnbpobcijakaa

namespace Go.Proofs.Ytagnbpobcijakaa
open Go.RowKit Go.Sort

/-- How many kids the law gives an operation. -/
def arN (k : Int) (n : Nat) : Nat := if k = 6 then min n 8 else if k = 7 ∨ k = 8 ∨ k = 10 ∨ k = 11 ∨ k = 12 then 1 else if k = 25 then 3 else 2
def arS (k n : Int) (s : List Int) : List UInt8 := if k = 7 ∨ k = 8 then nmI n else if k = 10 then idt5 s else []
/-- A tree, as the law makes it. -/
def treeX : Nat → Rw → Ex
  | 0, .mk op n s _ => leafX (op % 6) n s
  | d + 1, .mk op n s l => if d = 0 ∨ l.length = 0 then leafX (op % 6) n s else
      .mk (6 + op % 20) false 0 (arS (6 + op % 20) n s) [] [] ((List.range (arN (6 + op % 20) l.length)).map fun i => treeX d (l.getD (i % l.length) (.mk 0 0 [] [])))

def kidsX (d : Nat) (l : List Rw) (j : Nat) : List Ex := (List.range j).map fun i => treeX d (l.getD (i % l.length) (.mk 0 0 [] []))
theorem kidsX_succ (d : Nat) (l : List Rw) (j : Nat) (h : j % l.length < l.length) : kidsX d l (j + 1) = kidsX d l j ++ [treeX d l[j % l.length]] := by
  unfold kidsX
  rw [List.range_succ, List.map_append, List.map_cons, List.map_nil]
  rw [show l.getD (j % l.length) (.mk 0 0 [] []) = l[j % l.length] by rw [List.getD, List.getElem?_eq_getElem h]; rfl]

set_option maxHeartbeats 4000000 in
set_option maxRecDepth 1000000 in
theorem tree_leaf (d : Nat) (op n : Int) (s : List Int) (l : List Rw) (r : R4) (w : World) (hx : IsR w r (.mk op n s l)) (hd : d ≤ 1000) (hc : d ≤ 1 ∨ l.length = 0) :
    Calls Try.prog 9 #[r.val, .int .i64 d] w fun e w' => ∃ q : R7, e = .returned q.val ∧ Below w.heap.size w w' ∧ IsE w' (fun b => w.heap.size ≤ b) q (leafX (op % 6) n s) := by
  unfold IsR at hx
  obtain ⟨rfl, rfl, hsl, hs1, hs2, hz, hll, hl1, hks⟩ := hx
  have b2 := below2 w (.cells #[.int .i64 r.op, .int .i64 r.n, .slice r.so r.sl r.sc, .slice r.lo r.ll r.lc] 27) (.cells #[.int .i64 0, .bool false, .int .i64 0, .string ⟨#[]⟩, .string ⟨#[]⟩, .string ⟨#[]⟩, .slice none 0 0] 39)
  have Z1 : ((w.alloc (.cells #[.int .i64 r.op, .int .i64 r.n, .slice r.so r.sl r.sc, .slice r.lo r.ll r.lc] 27)).alloc (.cells #[.int .i64 0, .bool false, .int .i64 0, .string ⟨#[]⟩, .string ⟨#[]⟩, .string ⟨#[]⟩, .slice none 0 0] 39)).heap[w.heap.size]? = some (.cells #[.int .i64 r.op, .int .i64 r.n, .slice r.so r.sl r.sc, .slice r.lo r.ll r.lc] 27 (0, 0)) := kept_of_below (newS _ _) (alloc_heap _ _)
  have Z2 : ((w.alloc (.cells #[.int .i64 r.op, .int .i64 r.n, .slice r.so r.sl r.sc, .slice r.lo r.ll r.lc] 27)).alloc (.cells #[.int .i64 0, .bool false, .int .i64 0, .string ⟨#[]⟩, .string ⟨#[]⟩, .string ⟨#[]⟩, .slice none 0 0] 39)).heap[w.heap.size + 1]? = some (.cells #[.int .i64 0, .bool false, .int .i64 0, .string ⟨#[]⟩, .string ⟨#[]⟩, .string ⟨#[]⟩, .slice none 0 0] 39 (0, 0)) := by
    have h := alloc_heap (w.alloc (.cells #[.int .i64 r.op, .int .i64 r.n, .slice r.so r.sl r.sc, .slice r.lo r.ll r.lc] 27)) (.cells #[.int .i64 0, .bool false, .int .i64 0, .string ⟨#[]⟩, .string ⟨#[]⟩, .string ⟨#[]⟩, .slice none 0 0] 39)
    rw [show (w.alloc (.cells #[.int .i64 r.op, .int .i64 r.n, .slice r.so r.sl r.sc, .slice r.lo r.ll r.lc] 27)).heap.size = w.heap.size + 1 by simp] at h
    exact h
  have LF := leaf5_any r s _ hs1 hsl hs2 (hz.below b2)
  have HI := hide (fun w' => leaf_is (r.op % 6) r.n s w' (fun b => w.heap.size ≤ b))
  generalize leafR (r.op % 6) r.n s = q at *
  generalize leafX (r.op % 6) r.n s = X at *
  rw [hll] at b2 Z1 Z2 LF
  unfold R4.val at LF ⊢
  rw [hll] at LF ⊢
  generalize l.length = ln at *
  clear hz hks hll hsl hs1 hs2
  by_cases h1 : d ≤ 1
  · have i1 : (d : Int) ≤ 1 := by omega
    clear hc
    go_enter Try.func9, Try.ntmps9
    go_upto_region 1 with fail
    generalize (w.alloc _).alloc _ = w2 at *
    obtain ⟨x0, x1, x2, x3, _⟩ := blk4 Z1
    go_wp2_with fail
    refine LF.mono ?_
    rintro e w3 ⟨rfl, b3⟩
    have b03 := b2.trans (b3.mono b2.size)
    obtain ⟨y0, y1, y2, y3, y4, y5, y6, yf⟩ := blk7 (kept_of_below b3 Z2)
    clear x0 x1 x2 x3 LF
    unfold R7.val
    go_wp2
    exact bodyPost_ret (v := R7.val q) (by simp [results, Try.results9, go_sem, y0, y1, y2, y3, y4, y5, y6, R7.val]) rfl ⟨q, rfl, set7S_below b03 (Nat.le_succ _) _ _ _ _ _ _ _, unhide HI _⟩
  · have h0 : ln = 0 := hc.resolve_left h1
    subst h0
    have i1 : ¬ (d : Int) ≤ 1 := by omega
    clear hc
    go_enter Try.func9, Try.ntmps9
    go_upto_region 1 with fail
    generalize (w.alloc _).alloc _ = w2 at *
    obtain ⟨x0, x1, x2, x3, _⟩ := blk4 Z1
    go_wp2_with fail
    refine LF.mono ?_
    rintro e w3 ⟨rfl, b3⟩
    have b03 := b2.trans (b3.mono b2.size)
    obtain ⟨y0, y1, y2, y3, y4, y5, y6, yf⟩ := blk7 (kept_of_below b3 Z2)
    clear x0 x1 x2 x3 LF
    unfold R7.val
    go_wp2
    exact bodyPost_ret (v := R7.val q) (by simp [results, Try.results9, go_sem, y0, y1, y2, y3, y4, y5, y6, R7.val]) rfl ⟨q, rfl, set7S_below b03 (Nat.le_succ _) _ _ _ _ _ _ _, unhide HI _⟩
end Go.Proofs.Ytagnbpobcijakaa
