/-
  text.Of: what it returns.
-/
import Derived.Test.YtiokpdpegkbgiaaDoorRunesW
namespace Go.Proofs.YtiokpdpegkbgiaaDoor
open Go.RowKit

set_option maxHeartbeats 4000000 in
set_option maxRecDepth 1000000 in
theorem of_any (xs : List Int) (ao : Option Addr) (cap : Nat) (w : World) (hl : xs.length ≤ 1099511627776) (hx : ∀ x ∈ xs, -2147483648 ≤ x ∧ x ≤ 2147483647) (hrow : RowAt w ao xs) :
    Calls Tryd.prog 13 #[.slice ao xs.length cap] w fun e w' => e = .returned (.tuple #[.string ⟨(ofS xs).toArray⟩, .int .i64 (ofE xs)]) ∧ Below w.heap.size w w' := by
  go_enter Tryd.func13, Tryd.ntmps13
  go_wp2
  go_loopw [9] (fun i wr => ∃ (k : Nat), k ≤ xs.length ∧ i = .int .i64 k ∧ Lib.IsBuilderF 54 5 w.heap.size w.heap.size (Lib.byteCells (ofL (xs.take k))) wr ∧ Below w.heap.size w wr ∧ ofOk (xs.take k) = true) (fun i _ => xs.length - (intOf i).toNat)
  case atStart =>
    exact ⟨0, Nat.zero_le _, rfl, Lib.IsBuilderF.of (Lib.fresh_isBuilder 54 5 w), (Below.refl _ w).alloc (Nat.le_refl _) _, rfl⟩
  case round =>
    obtain ⟨k, hk, rfl, hI, hbw, hok⟩ := hrel
    have HOK := hide hok
    clear hok
    have hsz := hbw.size
    have hlen := ofL_len (xs.take k)
    have hlen2 : (xs.take k).length ≤ k := List.length_take_le _ _
    by_cases hlt : k < xs.length
    · obtain ⟨b, off, rfl, hb, hc⟩ := hrow k hlt
      have hc2 := (hbw.cell (p := ⟨b, off + k, none⟩) hb).trans hc
      obtain ⟨hx0, hx1⟩ := hx xs[k] (List.getElem_mem hlt)
      have HT := hide (List.take_succ_eq_append_getElem hlt)
      generalize hxk : xs[k] = x at *
      have HXK := hide hxk
      clear hxk hc
      go_wp2_with fail
      refine (Tryd.utf8_ValidRune _ _).mono ?_
      rintro e w1 ⟨rfl, rfl⟩
      generalize hv : Lib.validRune x = vb
      have HV := hide hv
      clear hv
      cases vb
      · go_wp2
        go_ret2
        refine ⟨?_, hbw⟩
        have hbad : ofOk xs = false := ofOk_bad hlt (by rw [unhide HXK]; exact unhide HV)
        rw [ofS_bad hbad, ofE_bad hbad]
        rfl
      · go_wp2_with fail
        refine (writeRune w.heap.size w.heap.size _ _ hx0 hx1 _ hI (by rw [Lib.byteCells_length]; omega) hsz).mono ?_
        rintro e w2 ⟨rfl, hI2, b2, _⟩
        go_wp2
        go_roundw
        case rel =>
          refine ⟨k + 1, by omega, by go_num, ?_, hbw.trans b2, ?_⟩
          · rw [unhide HT, ofL_snoc, Lib.byteCells_append, Lib.byteCells_encodeRune]
            exact Or.inr hI2
          · rw [unhide HT, ofOk_snoc, unhide HOK, unhide HV]
            rfl
        case measure =>
          simp [intOf]
          omega
    · have hke : k = xs.length := by omega
      subst hke
      rw [List.take_length] at hI HOK
      go_wp2_with fail
      refine (Tryd.Builder_String_any_k w.heap.size w.heap.size _ _ hI hsz).mono ?_
      rintro e w2 ⟨rfl, _, b2, _⟩
      go_wp2
      go_ret2
      refine ⟨?_, hbw.trans b2⟩
      rw [ofS_ok (unhide HOK), ofE_ok (unhide HOK)]
      rfl
end Go.Proofs.YtiokpdpegkbgiaaDoor
