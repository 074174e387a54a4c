/-
  chancellaw3.Good: what it returns.
  chancellaw3.Good: what it returns, whatever its kind.
-/
import Derived.Test.YtakolbijajlhkaaGreatVfA
import Derived.Test.YtakolbijajlhkaaGreatVeAL
import Derived.Test.YtakolbijajlhkaaGreatEncAll
import Derived.Deep.Cut
import Derived.Test.YtakolbijajlhkaaGreatVcEM
namespace Go.Proofs.YtakolbijajlhkaaGreat
open Go.RowKit Go.Sort

/-- The kind that Good takes, of the plain values within. -/
def goodK (k : Int) : Nat := (1 + wrap64 (k.tdiv 5) % 4).toNat
theorem goodK_eq (k : Int) : 1 ≤ goodK k ∧ goodK k ≤ 4 ∧ 1 + wrap64 (k.tdiv 5) % 4 = (goodK k : Int) := by
  unfold goodK
  have h0 := Int.emod_nonneg (wrap64 (k.tdiv 5)) (show (4 : Int) ≠ 0 by decide)
  have h1 := Int.emod_lt_of_pos (wrap64 (k.tdiv 5)) (show (0 : Int) < 4 by decide)
  omega

/-- The plain values that Good makes a set of. -/
def goodL (k : Int) (es : List RawE) : List PV := (es.take 8).map fun e => plainV (goodK k) e.n e.xs

theorem goodL_len (k : Int) (es : List RawE) : (goodL k es).length = min 8 es.length := by simp [goodL]
theorem goodL_snoc (k : Int) (es : List RawE) (i : Nat) (h : i < es.length) (h8 : i < 8) : (goodL k es).take (i + 1) = (goodL k es).take i ++ [plainV (goodK k) es[i].n es[i].xs] := by
  rw [List.take_succ_eq_append_getElem (by rw [goodL_len]; omega)]
  simp [goodL]
theorem plainV_kindB (p : Nat) (h1 : 1 ≤ p) (h4 : p ≤ 4) (n : Int) (xs : List Int) : (plainV p n xs).kind = p := by
  match p, h1, h4 with
  | 1, _, _ | 2, _, _ | 3, _, _ | 4, _, _ => rfl
theorem goodL_kind (k : Int) (es : List RawE) : ∀ p ∈ goodL k es, ∀ q ∈ goodL k es, p.kind = q.kind := by
  intro p hp q hq
  obtain ⟨a, _, rfl⟩ := List.mem_map.1 hp
  obtain ⟨b, _, rfl⟩ := List.mem_map.1 hq
  rw [plainV_kindB _ (goodK_eq k).1 (goodK_eq k).2.1, plainV_kindB _ (goodK_eq k).1 (goodK_eq k).2.1]

/-- What each slot of the region holds. -/
def goodSp (B : Nat) (lv lo : Value) (b off i : Nat) (raw : Value) (k : Int) (kd : Nat) (x : R7) : Nat → Value → World → Prop
  | 0, v, _ => v = lv
  | 1, v, _ => v = .pointer (some ⟨B, 3, none⟩)
  | 2, v, _ => v = lo
  | 3, v, _ => v = .int .i64 i
  | 4, v, _ => v = .pointer (some ⟨b, off + i * 4, none⟩)
  | 5, v, _ => v = raw
  | 6, v, _ => v = .pointer (some ⟨B, 0, none⟩)
  | 7, v, _ => v = .int .i64 k
  | 8, v, _ => v = .int .i64 (wrap64 (k.tdiv 5))
  | 9, v, _ => v = .int .i64 (wrap64 (k.tdiv 5) % 4)
  | 10, v, _ => v = .int .i64 kd
  | 11, v, _ => v = x.val
  | 12, v, w => ∃ blk, v = .slice (some ⟨blk, 0, none⟩) 1 1 ∧ blk < w.heap.size ∧ ∀ j u, x.cells[j]? = some u → w.cell? ((⟨blk, 0, none⟩ : Addr).add j) = some u
  | _, _, _ => True

theorem goodSp_up {B : Nat} {lv lo : Value} {b off i : Nat} {raw : Value} {k : Int} {kd : Nat} {x : R7} {w w' : World} (hb : Below w.heap.size w w') : ∀ j u, goodSp B lv lo b off i raw k kd x j u w → goodSp B lv lo b off i raw k kd x j u w'
  | 0, _, h | 1, _, h | 2, _, h | 3, _, h | 4, _, h | 5, _, h | 6, _, h | 7, _, h | 8, _, h | 9, _, h | 10, _, h | 11, _, h => h
  | 12, _, ⟨blk, e, hl, hc⟩ => ⟨blk, e, Nat.lt_of_lt_of_le hl hb.size, fun j u hu => (hb.cell (p := (⟨blk, 0, none⟩ : Addr).add j) (by rw [Addr.add_lit]; exact hl)).trans (hc j u hu)⟩
  | _ + 13, _, _ => trivial

end Go.Proofs.YtakolbijajlhkaaGreat

namespace Go.Proofs.YtakolbijajlhkaaGreat
open Go.RowKit Go.Sort

/-- What Good makes. -/
def goodG (r : RawE) (es : List RawE) : GV := if r.k % 5 = 4 then .set (setOf lessP (goodL r.k es)) else .pl (plainV (1 + r.k % 5).toNat r.n r.xs)

end Go.Proofs.YtakolbijajlhkaaGreat
