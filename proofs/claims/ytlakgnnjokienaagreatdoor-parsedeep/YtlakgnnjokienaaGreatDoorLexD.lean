/-
  lex.signOf, tokenOf: what they return.
-/
import Derived.Test.YtlakgnnjokienaaGreatDoorLexC
namespace Go.Proofs.YtlakgnnjokienaaGreatDoor
open Go.RowKit

def sgnA : Array Value := (sgns.map fun g => Value.string ⟨g.toArray⟩).toArray
theorem sgnA_size : sgnA.size = 24 := rfl
/-- The signs lie where the program's text lays them. -/
def Signs (w : World) : Prop := ∃ t fr, w.heap[0]? = some (.cells sgnA t fr)
theorem Signs.below {w w' : World} (h : Signs w) (hb : Below w.heap.size w w') : Signs w' := by
  obtain ⟨t, fr, h⟩ := h
  exact ⟨t, fr, kept_of_below hb h⟩

theorem signF_drop (l : List UInt8) (k : Nat) (g : List UInt8) (h : sgns[k]? = some g) : signF l (sgns.drop k) = if Lib.hasPrefix l g then ⟨4, g, 0, g.length, 0⟩ else signF l (sgns.drop (k + 1)) := by
  obtain ⟨hk, rfl⟩ := List.getElem?_eq_some_iff.1 h
  rw [List.drop_eq_getElem_cons hk, signF]

theorem run_index_arr (cs : Array Value) (i : Nat) (v : Value) (w : World) (hi : i < 24) (hv : cs[i]? = some v) :
    (Instr.index 86 (.agg cs) (.int .i64 i)).run Tryz.prog w = .ok v w := by
  have h : Tryz.prog.underlying 86 = some (.array 24 9) := Tryz.underlying86
  have h2 : ∀ w : World, (isAgg 9).run Tryz.prog w = .ok false w := fun _ => by kernel_rfl
  have h3 : ∀ w : World, (sizeOf 9).run Tryz.prog w = .ok 1 w := fun _ => by kernel_rfl
  simp [Instr.index, run_underlying h, asIntOf, go_sem, part, h2, h3, hv]
  intro h
  omega

theorem signs_row {w : World} (h : Signs w) : ∃ (A : Array Value) (ty : TypeId) (fr : Nat × Nat), w.heap[0]? = some (.cells A ty fr) ∧ A.size = 24 ∧
    ∀ (k : Nat) (g : List UInt8) (W : World), sgns[k]? = some g → (Instr.index 86 (.agg A) (.int .i64 (k : Int))).run Tryz.prog W = .ok (.string ⟨g.toArray⟩) W := by
  obtain ⟨ty, fr, h⟩ := h
  refine ⟨sgnA, ty, fr, h, rfl, fun k g W hg => ?_⟩
  refine run_index_arr _ k _ W (List.getElem?_eq_some_iff.1 hg).1 ?_
  show sgnA[k]? = _
  simp [sgnA, hg]

set_option maxHeartbeats 2000000 in
set_option maxRecDepth 1000000 in
theorem signOf_any (s : ByteArray) (w : World) (hS : Signs w) :
    Calls Tryz.prog 49 #[.string s] w fun e w' => e = .returned (signT s.data.toList).ret ∧ Below w.heap.size w w' := by
  have b1 := new1 w (.cells #[.int .i64 0, .string ⟨#[]⟩, .int .i64 0, .int .i64 0] 70)
  obtain ⟨A, ty, fr, hA, hA24, hix⟩ := signs_row (hS.below b1)
  clear hS
  have Hix := hide hix
  clear hix
  go_enter Tryz.func49, Tryz.ntmps49
  go_wp2_with (refine wpList_load_row rfl 86 _ rfl 0 rfl ty A fr _ hA Tryz.underlying86 rfl (by rw [hA24]; kernel_rfl) ?_)
  generalize hw1 : w.alloc _ = w1 at *
  have z1 : w1.heap.size = w.heap.size + 1 := by rw [← hw1]; simp
  have Hw1 := hide hw1
  clear hw1 hA
  go_loopw [8] (fun iv wr => ∃ k : Nat, k ≤ 24 ∧ iv = .int .i64 k ∧ wr = w1 ∧ signF s.data.toList (sgns.drop k) = signT s.data.toList) (fun iv _ => 24 - (intOf iv).toNat)
  case atStart => exact ⟨0, Nat.zero_le _, rfl, rfl, rfl⟩
  case round =>
    obtain ⟨k, hk, rfl, rfl, hacc⟩ := hrel
    have Hacc := hide hacc
    clear hacc
    by_cases hlt : k < 24
    · have i1 : (k : Int) < 24 := by omega
      obtain ⟨g, hg⟩ : ∃ g, sgns[k]? = some g := ⟨sgns[k]'hlt, List.getElem?_eq_getElem hlt⟩
      have hi := fun W => unhide Hix k g W hg
      have HG := hide (signF_drop s.data.toList k g hg)
      obtain ⟨t, ht⟩ : ∃ t : ByteArray, t = ⟨g.toArray⟩ := ⟨_, rfl⟩
      have hgt : g = t.data.toList := by rw [ht]
      rw [← ht] at hi
      have P := Tryz.strings_HasPrefix s t
      rw [← hgt] at P
      have HT := hide hgt
      have Hs := hide (show t.size = g.length by rw [Lib.size_eq, ← hgt])
      clear hg ht hgt
      cases hp : Lib.hasPrefix s.data.toList g with
      | true =>
        rw [hp] at P
        rw [hp, if_pos rfl] at HG
        clear hp
        have hc : ∀ o, (wr.cell? ⟨w.heap.size, o, none⟩) = (w.alloc (.cells #[.int .i64 0, .string ⟨#[]⟩, .int .i64 0, .int .i64 0] 70)).cell? ⟨w.heap.size, o, none⟩ := fun o => by rw [unhide Hw1]
        have hf : ∀ o, (wr.frozen? ⟨w.heap.size, o, none⟩) = (w.alloc (.cells #[.int .i64 0, .string ⟨#[]⟩, .int .i64 0, .int .i64 0] 70)).frozen? ⟨w.heap.size, o, none⟩ := fun o => by rw [unhide Hw1]
        go_wp2_with (go_at_call 40; refine (P _).mono ?_; rintro e w' ⟨rfl, rfl⟩)
        exact bodyPost_ret (v := .tuple #[.agg #[.int .i64 4, .string t, .int .i64 0, .int .i64 0], .int .i64 t.size, .int .i64 0]) (by simp [results, Tryz.results49, go_sem, hc]) rfl ⟨by rw [← unhide Hacc, unhide HG, unhide Hs, ← ba_ofL t, ← unhide HT]; rfl, set4_below b1 (Nat.le_refl _) _ _ _ _⟩
      | false =>
        rw [hp] at P
        rw [hp, if_neg (by simp)] at HG
        clear hp
        go_wp2_with (go_at_call 40; refine (P _).mono ?_; rintro e w' ⟨rfl, rfl⟩)
        go_roundw
        case rel => exact ⟨k + 1, by omega, by go_num, by trivial, by rw [← unhide HG]; exact unhide Hacc⟩
        case measure =>
          simp only [intOf]
          omega
    · have e24 : k = 24 := by omega
      subst e24
      have e : signT s.data.toList = badT 12 := by rw [← unhide Hacc]; rfl
      have E := hide e
      clear e
      have hc : ∀ o, (wr.cell? ⟨w.heap.size, o, none⟩) = (w.alloc (.cells #[.int .i64 0, .string ⟨#[]⟩, .int .i64 0, .int .i64 0] 70)).cell? ⟨w.heap.size, o, none⟩ := fun o => by rw [unhide Hw1]
      have hf : ∀ o, (wr.frozen? ⟨w.heap.size, o, none⟩) = (w.alloc (.cells #[.int .i64 0, .string ⟨#[]⟩, .int .i64 0, .int .i64 0] 70)).frozen? ⟨w.heap.size, o, none⟩ := fun o => by rw [unhide Hw1]
      go_wp2
      exact bodyPost_ret (v := .tuple #[.agg #[.int .i64 0, .string ⟨#[]⟩, .int .i64 0, .int .i64 0], .int .i64 0, .int .i64 12]) (by simp [results, Tryz.results49, go_sem, hc]) rfl ⟨by rw [unhide E]; rfl, set4_below b1 (Nat.le_refl _) _ _ _ _⟩
end Go.Proofs.YtlakgnnjokienaaGreatDoor
