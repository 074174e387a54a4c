/-
  chancelref1.Of; chancellaw1's same and Of: what they return.
-/
import Derived.Test.YtckjafmnaffggaaRefA
import Derived.Test.YtckjafmnaffggaaHex
namespace Go.Proofs.Ytckjafmnaffggaa
open Go.RowKit

theorem add0 (g j : Nat) : (⟨g, 0, none⟩ : Addr).add j = ⟨g, j, none⟩ := by
  simp [Addr.add]
  intro h
  exact h.symm

/-- string(b) of a row of bytes that the call owns. -/
theorem conv_owned {w : World} {B : Nat} {v : Value} {l : List UInt8} (h : w.ownsRow B 5 1 v l.length (Lib.byteCells l)) :
    (convert 63 9 v).run Try.prog w = .ok (.string ⟨l.toArray⟩) w := by
  by_cases h0 : 0 < l.length
  · obtain ⟨g, cap, rfl, _, _, _, hc⟩ := owns_open h h0
    refine conv_back w ⟨g, 0, none⟩ l.length cap l rfl (fun j hj => ?_)
    have := hc j (.int .u8 (l[j].toNat : Int)) (by simp [Lib.byteCells, hj])
    rw [show (⟨g, 0, none⟩ : Addr).add j = ⟨g, j, none⟩ from add0 g j]
    exact this
  · have hl : l = [] := List.length_eq_zero_iff.1 (by omega)
    subst hl
    rcases h.2 with ⟨rfl, _⟩ | ⟨g, cap, cur, hv, _⟩
    · rw [run_convert_bytes_string w 63 9 5 none 0 0 Try.underlying63 Try.underlying5 Try.underlying9]
      rfl
    · subst hv
      exact conv_back w ⟨g, 0, none⟩ 0 cap [] rfl (fun j hj => by simp at hj)

set_option maxHeartbeats 4000000 in
set_option maxRecDepth 1000000 in
theorem rof_any (xs : List Int) (ao : Option Addr) (cap : Nat) (w : World) (hl : xs.length ≤ 1099511627776) (hrow : RowAt w ao xs) :
    Calls Try.prog 65 #[.slice ao xs.length cap] w fun e w' => e = .returned (.tuple #[.string ⟨(ofS xs).toArray⟩, .int .i64 (ofE xs)]) ∧ Below w.heap.size w w' := by
  go_enter Try.func65, Try.ntmps65
  go_wp2
  go_loopw [4, 5] (fun v i wr => ∃ (k : Nat), k ≤ xs.length ∧ i = .int .i64 k ∧ wr.ownsRow w.heap.size 5 1 v (ofL (xs.take k)).length (Lib.byteCells (ofL (xs.take k))) ∧ Below w.heap.size w wr ∧ ofOk (xs.take k) = true) (fun _ i _ => xs.length - (intOf i).toNat)
  case atStart =>
    exact ⟨0, Nat.zero_le _, rfl, ⟨by simp [ofL, Lib.byteCells], .inl ⟨rfl, rfl⟩⟩, Below.refl _ w, rfl⟩
  case round =>
    obtain ⟨k, hk, rfl, hown, hbw, hok⟩ := hrel
    have HOK := hide hok
    clear hok
    have hsz := hbw.size
    have hlen := ofL_len (xs.take k)
    have hlen2 : (xs.take k).length ≤ k := List.length_take_le _ _
    by_cases hlt : k < xs.length
    · obtain ⟨b, off, rfl, hb, hc⟩ := hrow k hlt
      have hc2 := (hbw.cell (p := ⟨b, off + k, none⟩) hb).trans hc
      have HT := hide (List.take_succ_eq_append_getElem hlt)
      generalize hxk : xs[k] = x at *
      have HXK := hide hxk
      clear hxk hc
      go_wp2_with fail
      refine (is_any _ _).mono ?_
      rintro e w1 ⟨rfl, rfl⟩
      generalize hv : Lib.validRune x = vb
      have HV := hide hv
      clear hv
      cases vb
      · go_wp2
        go_ret2
        refine ⟨?_, hbw⟩
        have hbad : ofOk xs = false := ofOk_bad hlt (by rw [unhide HXK]; exact unhide HV)
        rw [ofS_bad hbad, ofE_bad hbad]
        rfl
      · go_wp2_with fail
        refine (put_any w.heap.size _ _ _ _ (unhide HV) _ hown (by omega) hsz).mono ?_
        rintro e w2 ⟨v', rfl, hown', o, hgrow⟩
        have hb2 : Below w.heap.size w w2 := (hbw.alloc hsz o).grown hgrow (by simp; omega) (fun g hg => (hown.lt g hg).1)
        go_wp2
        go_roundw
        case rel =>
          refine ⟨k + 1, by omega, by go_num, ?_, hb2, ?_⟩
          · rw [unhide HT, ofL_snoc, Lib.byteCells_append, List.length_append]
            exact hown'
          · rw [unhide HT, ofOk_snoc, unhide HOK, unhide HV]
            rfl
        case measure =>
          simp [intOf]
          omega
    · have hke : k = xs.length := by omega
      subst hke
      rw [List.take_length] at hown HOK
      have hcv := conv_owned hown
      go_wp2
      go_ret2
      refine ⟨?_, hbw⟩
      rw [ofS_ok (unhide HOK), ofE_ok (unhide HOK)]
      rfl

end Go.Proofs.Ytckjafmnaffggaa
