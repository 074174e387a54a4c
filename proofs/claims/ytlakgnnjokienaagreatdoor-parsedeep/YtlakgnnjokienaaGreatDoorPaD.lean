/-
  parse's reader: uids; node.
-/
import Derived.Test.YtlakgnnjokienaaGreatDoorPaC
namespace Go.Proofs.YtlakgnnjokienaaGreatDoor
open Go.RowKit

theorem blk2 {w : World} {b : Nat} {v0 v1 : Value} {T : TypeId} (h : w.heap[b]? = some (.cells #[v0, v1] T (0, 0))) :
    w.cell? ⟨b, 0, none⟩ = some v0 ∧ w.cell? ⟨b, 1, none⟩ = some v1 ∧ ∀ o, w.frozen? ⟨b, o, none⟩ = false :=
  ⟨by rw [Lib.cell_of_heap h]; rfl, by rw [Lib.cell_of_heap h]; rfl, fun o => Lib.frozen_of_heap h o⟩
theorem set2_0 {w : World} {b : Nat} {v0 v1 : Value} {T : TypeId} (h : w.heap[b]? = some (.cells #[v0, v1] T (0, 0))) (v : Value) : (w.setCell ⟨b, 0, none⟩ v).heap[b]? = some (.cells #[v, v1] T (0, 0)) := by
  simp [World.setCell, Array.getElem?_modify, h]
theorem set2_1 {w : World} {b : Nat} {v0 v1 : Value} {T : TypeId} (h : w.heap[b]? = some (.cells #[v0, v1] T (0, 0))) (v : Value) : (w.setCell ⟨b, 1, none⟩ v).heap[b]? = some (.cells #[v0, v] T (0, 0)) := by
  simp [World.setCell, Array.getElem?_modify, h]

/-- The state behind a uid. -/
def uidSt (st : St) : St := needSt 3 (needSS 4 [58, 58] (needSt 1 st))
def uidId (st : St) : Tok := needTok 3 (needSS 4 [58, 58] (needSt 1 st))
set_option maxHeartbeats 1000000 in
set_option maxRecDepth 1000000 in
theorem uid_any (st : St) (w : World) (rb : Nat) (h : RdAt w rb st) :
    Calls Tryz.prog 17 #[rp rb] w fun e w' => e = .returned (.agg #[.string ⟨(needTok 1 st).s.toArray⟩, .string ⟨(uidId st).s.toArray⟩]) ∧ Keep rb w w' ∧ RdAt w' rb (uidSt st) := by
  have hlt := h.lt
  have b0 := below2 w (.cells #[.string ⟨#[]⟩, .string ⟨#[]⟩] 25) (.cells #[.string ⟨#[]⟩, .string ⟨#[]⟩] 25)
  have N := name_any st _ rb (h.below b0)
  have S := fun w' h' => needSign_any (needSt 1 st) w' rb ⟨#[58, 58]⟩ h'
  have I := fun w' h' => str_any (needSS 4 [58, 58] (needSt 1 st)) w' rb h'
  unfold uidSt uidId
  have S' : ∀ w', RdAt w' rb (needSt 1 st) → Calls Tryz.prog 27 #[rp rb, .string ⟨#[58, 58]⟩] w' fun e w'' => e = .returned (.tuple #[]) ∧ Keep rb w' w'' ∧ RdAt w'' rb (needSS 4 [58, 58] (needSt 1 st)) := S
  clear S
  generalize needSt 3 (needSS 4 [58, 58] (needSt 1 st)) = s3 at *
  generalize needTok 3 (needSS 4 [58, 58] (needSt 1 st)) = t3 at *
  generalize needSS 4 [58, 58] (needSt 1 st) = s2 at *
  generalize needSt 1 st = s1 at *
  generalize needTok 1 st = t1 at *
  generalize (⟨t1.s.toArray⟩ : ByteArray) = y1 at *
  generalize (⟨t3.s.toArray⟩ : ByteArray) = y3 at *
  unfold rp at N S' I ⊢
  have z0 : ((w.alloc (.cells #[.string ⟨#[]⟩, .string ⟨#[]⟩] 25)).alloc (.cells #[.string ⟨#[]⟩, .string ⟨#[]⟩] 25)).heap[w.heap.size]? = some (.cells #[.string ⟨#[]⟩, .string ⟨#[]⟩] 25 (0, 0)) := kept_of_below (new1 _ _) (alloc_heap _ _)
  have z1 : ((w.alloc (.cells #[.string ⟨#[]⟩, .string ⟨#[]⟩] 25)).alloc (.cells #[.string ⟨#[]⟩, .string ⟨#[]⟩] 25)).heap[w.heap.size + 1]? = some (.cells #[.string ⟨#[]⟩, .string ⟨#[]⟩] 25 (0, 0)) := by
    have := alloc_heap (w.alloc (.cells #[.string ⟨#[]⟩, .string ⟨#[]⟩] 25)) (.cells #[.string ⟨#[]⟩, .string ⟨#[]⟩] 25)
    simpa using this
  have hn0 : w.heap.size ≠ rb := by omega
  have hn1 : w.heap.size + 1 ≠ rb := by omega
  go_enter Tryz.func17, Tryz.ntmps17
  go_wp2_with fail
  generalize (w.alloc _).alloc _ = w0 at *
  refine N.mono ?_
  rintro e w1 ⟨rfl, k1, r1⟩
  have z0 := k1.kept hn0 z0
  have z1 := k1.kept hn1 z1
  have K1 := (Keep.of_below (rb := rb) b0).trans k1
  obtain ⟨u0, u1, uf⟩ := blk2 z1
  have K2 := K1.setCell (p := ⟨w.heap.size + 1, 0, none⟩) (.inr (by show w.heap.size ≤ w.heap.size + 1; omega)) (.string y1)
  have R2 := r1.setCell (p := ⟨w.heap.size + 1, 0, none⟩) (by show rb < w.heap.size + 1; omega) (.string y1)
  have Z1 := set2_0 z1 (.string y1)
  have Z0 := (Below.heap_setCell w1 ⟨w.heap.size + 1, 0, none⟩ (.string y1) w.heap.size (by show w.heap.size ≠ w.heap.size + 1; omega)).trans z0
  go_upto_region 3 with fail
  generalize w1.setCell _ _ = w2 at *
  clear u0 u1 uf z0 z1 K1 k1 r1
  go_wp2_with fail
  refine (S' _ R2).mono ?_
  rintro e w3 ⟨rfl, k3, r3⟩
  go_wp2_with fail
  refine (I _ r3).mono ?_
  rintro e w4 ⟨rfl, k4, r4⟩
  have K4 := (K2.trans k3).trans k4
  have Z0 := k4.kept hn0 (k3.kept hn0 Z0)
  have Z1 := k4.kept hn1 (k3.kept hn1 Z1)
  obtain ⟨u0, u1, uf⟩ := blk2 Z1
  have K5 := K4.setCell (p := ⟨w.heap.size + 1, 1, none⟩) (.inr (by show w.heap.size ≤ w.heap.size + 1; omega)) (.string y3)
  have R5 := r4.setCell (p := ⟨w.heap.size + 1, 1, none⟩) (by show rb < w.heap.size + 1; omega) (.string y3)
  have Y1 := set2_1 Z1 (.string y3)
  have Y0 := (Below.heap_setCell w4 ⟨w.heap.size + 1, 1, none⟩ (.string y3) w.heap.size (by show w.heap.size ≠ w.heap.size + 1; omega)).trans Z0
  go_upto_region 5 with fail
  generalize w4.setCell _ _ = w5 at *
  clear u0 u1 uf Z0 Z1
  obtain ⟨u0, u1, _⟩ := blk2 Y1
  obtain ⟨x0, x1, xf⟩ := blk2 Y0
  go_wp2
  exact bodyPost_ret (v := .agg #[.string y1, .string y3]) (by simp [results, Tryz.results17, go_sem, x0, x1]) rfl ⟨rfl, (K5.setCell (p := ⟨w.heap.size, 0, none⟩) (.inr (Nat.le_refl _)) _).setCell (p := ⟨w.heap.size, 1, none⟩) (.inr (Nat.le_refl _)) _, (R5.setCell (p := ⟨w.heap.size, 0, none⟩) hlt _).setCell (p := ⟨w.heap.size, 1, none⟩) hlt _⟩

/-- node: an operation and its kids, nothing else. -/
theorem node_any (op : Int) (ao : Option Addr) (n c : Nat) (w : World) :
    Calls Tryz.prog 24 #[.int .i64 op, .slice ao n c] w fun e w' => e = .returned (.agg #[.int .i64 op, .bool false, .int .i64 0, .string ⟨#[]⟩, .string ⟨#[]⟩, .string ⟨#[]⟩, .slice ao n c]) ∧ Below w.heap.size w w' := by
  go_enter Tryz.func24, Tryz.ntmps24
  go_wp2
  exact bodyPost_ret (v := .agg #[.int .i64 op, .bool false, .int .i64 0, .string ⟨#[]⟩, .string ⟨#[]⟩, .string ⟨#[]⟩, .slice ao n c]) (by simp [results, Tryz.results24, go_sem]) rfl ⟨rfl, new1 _ _⟩
end Go.Proofs.YtlakgnnjokienaaGreatDoor
