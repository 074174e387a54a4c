/-
  chancellaw10.SchemaBounds: letters, rows that are owned, what the schemas are told (no walk in it).
-/
import Derived.Test.YtbcddjaecdoliaaScJ
import Derived.Test.YtbcddjaecdoliaaEcA
import Derived.OwnWalk
namespace Go.Proofs.Ytbcddjaecdoliaa
open Go.RowKit Go.Sort

def letQ (k : Nat) : ByteArray := ⟨#[UInt8.ofNat (97 + k)]⟩
set_option maxRecDepth 100000 in
theorem conv_let (k : Nat) (hk : k < 100) (w : World) : (convert 63 9 (.slice (some ⟨w.heap.size, 0, none⟩) 1 1)).run Try.prog (w.alloc (Obj.cells #[.int .u8 (97 + (k : Int))] 5)) = .ok (.string (letQ k)) (w.alloc (Obj.cells #[.int .u8 (97 + (k : Int))] 5)) := by
  obtain ⟨c, hc⟩ : ∃ c, c = UInt8.ofNat (97 + k) := ⟨_, rfl⟩
  have hcn : (c.toNat : Int) = 97 + (k : Int) := by
    rw [hc, UInt8.toNat_ofNat']
    omega
  have e1 : letQ k = ⟨#[c]⟩ := by rw [hc]; rfl
  rw [e1]
  refine run_convert_bytes_back _ 63 9 5 ⟨w.heap.size, 0, none⟩ 1 [c] Try.underlying63 Try.underlying5 Try.underlying9 ?_
  intro j hj
  have hj0 : j = 0 := by simpa using hj
  subst hj0
  show _ = some (Value.int .u8 ((c.toNat : Nat) : Int))
  rw [hcn]
  simp [Addr.add]
theorem own_belowS {w w' : World} {base : Nat} {e : TypeId} {k : Nat} {v : Value} {n : Nat} {xs : List Value} (h : w.ownsRow base e k v n xs) (hb : Below w.heap.size w w') : w'.ownsRow base e k v n xs :=
  h.kept (row := none) ⟨hb.os, hb.tape, hb.output, hb.size, fun j hj _ => hb.block j hj⟩ (by cases v.ownBlock <;> simp)
theorem rowG_ownS {w : World} {B n : Nat} {T : TypeId} {v : Value} {l : List (List Value)} (hn : ∀ c ∈ l, c.length = n) (h : w.ownsRow B T n v l.length l.flatten) : ∃ ao cap, v = .slice ao l.length cap ∧ RowG w ao n l ∧ l.length ≤ cap := by
  rcases h.2 with ⟨hv, h0⟩ | ⟨g, cap, cur, hv, _, hg, hcap, _, _, hxs⟩
  · exact ⟨none, 0, by rw [hv, h0], fun j hj => by omega, by omega⟩
  · refine ⟨_, cap, hv, fun j hj => ⟨g, 0, rfl, (Array.getElem?_eq_some_iff.1 hg).1, fun c u hu => ?_⟩, hcap⟩
    have hc : c < n := by
      have := (List.getElem?_eq_some_iff.1 hu).1
      rwa [hn _ (List.getElem_mem hj)] at this
    rw [Lib.cell_of_heap hg, Nat.zero_add]
    rw [← flat_get l hn j c hj hc, ← hxs, List.getElem?_take] at hu
    split at hu
    · simpa using hu
    · cases hu
/-- Rows by letters: kinds, actions, fields. -/
def kL (k : Nat) : N3 := ⟨letQ k, none, 0, 0, none, 0, 0⟩
def kLs (n : Nat) : List N3 := (List.range n).map kL
theorem kLs_succ (n : Nat) : kLs (n + 1) = kLs n ++ [kL n] := by simp [kLs, List.range_succ]
theorem kLs_len (n : Nat) : (kLs n).length = n := by simp [kLs]
def fL (k : Nat) : F4 := ⟨letQ k, 1, 0, ⟨#[]⟩⟩
def fLs (n : Nat) : List F4 := (List.range n).map fL
theorem fLs_succ (n : Nat) : fLs (n + 1) = fLs n ++ [fL n] := by simp [fLs, List.range_succ]
theorem fLs_len (n : Nat) : (fLs n).length = n := by simp [fLs]
def pLs (n : Nat) : List ByteArray := List.replicate n ⟨#[65]⟩
theorem pLs_succ (n : Nat) : pLs (n + 1) = pLs n ++ [⟨#[65]⟩] := List.replicate_succ'
theorem pLs_len (n : Nat) : (pLs n).length = n := by simp [pLs]
def kA : KP := ⟨⟨#[65]⟩, [], []⟩
def s0 (m : Nat) : SP := ⟨(List.range (5 + m)).map fun k => ⟨letQ k, [], []⟩, []⟩
def s1 (m : Nat) : SP := ⟨[kA], (List.range (5 + m)).map fun k => ⟨letQ k, [⟨#[65]⟩], [⟨#[65]⟩]⟩⟩
def s2 (m : Nat) : SP := ⟨[⟨⟨#[65]⟩, [], fLs (4 + m)⟩], []⟩
def s3 (m : Nat) : SP := ⟨[⟨⟨#[65]⟩, pLs (3 + m), []⟩], []⟩
def s4 (m : Nat) : SP := ⟨[kA], [⟨⟨#[120]⟩, pLs (5 + m), [⟨#[65]⟩]⟩]⟩
theorem s0_told : ∀ m, m < 4 → checkS (s0 m) = if 1 < m then 4 else 0 := by decide
theorem s1_told : ∀ m, m < 4 → checkS (s1 m) = if 1 < m then 4 else 0 := by decide
theorem s2_told : ∀ m, m < 4 → checkS (s2 m) = if 1 < m then 4 else 0 := by decide
theorem s3_told : ∀ m, m < 4 → checkS (s3 m) = if 1 < m then 4 else 0 := by decide
theorem s4_told : ∀ m, m < 4 → checkS (s4 m) = if 1 < m then 4 else 0 := by decide
theorem infoKind : (Try.prog.info? 42).map (fun i => (i.zero, i.size, i.bytes)) = some (some (.agg #[.string ⟨#[]⟩, .slice none 0 0, .slice none 0 0]), 3, 64) := by kernel_rfl
theorem infoAction : (Try.prog.info? 44).map (fun i => (i.zero, i.size, i.bytes)) = some (some (.agg #[.string ⟨#[]⟩, .slice none 0 0, .slice none 0 0]), 3, 64) := by kernel_rfl
theorem infoField : (Try.prog.info? 31).map (fun i => (i.zero, i.size, i.bytes)) = some (some (.agg #[.string ⟨#[]⟩, .int .i64 0, .int .i64 0, .string ⟨#[]⟩]), 4, 48) := by kernel_rfl
theorem infoStr : (Try.prog.info? 9).map (fun i => (i.zero, i.size, i.bytes)) = some (some (.string ⟨#[]⟩), 1, 16) := by kernel_rfl
end Go.Proofs.Ytbcddjaecdoliaa
