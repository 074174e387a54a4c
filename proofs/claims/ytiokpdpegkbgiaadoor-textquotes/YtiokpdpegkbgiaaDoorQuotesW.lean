/-
  chancellaw1.TextQuotes returns true, for every slice of ints and every string.
-/
import Derived.Test.YtiokpdpegkbgiaaDoorKnown
import Derived.Test.YtiokpdpegkbgiaaDoorLawOf
import Derived.Test.YtiokpdpegkbgiaaDoorReadX
import Derived.Test.YtiokpdpegkbgiaaDoorRefQuote
namespace Go.Proofs.YtiokpdpegkbgiaaDoor
open Go.RowKit

theorem quoL_flat_len : ∀ xs : List Int, (xs.flatMap quoL).length ≤ 6 * xs.length
  | [] => by simp
  | x :: t => by
    have h1 := quoL_flat_len t
    have h2 := quoL_len x
    rw [List.flatMap_cons, List.length_append, List.length_cons, Nat.mul_add]
    omega
theorem quoteL_txt_len (a : List Int) : (quoteL (txt a)).length ≤ 1000 := by
  have h1 := quoL_flat_len (picks a)
  have h2 := picks_len a
  unfold quoteL txt
  rw [runes_ofL _ (picks_ok a), List.length_cons, List.length_append]
  simp only [List.length_cons, List.length_nil]
  omega
theorem ba_of_list {s : ByteArray} {l : List UInt8} (h : s.data.toList = l) : (⟨l.toArray⟩ : ByteArray) = s := by
  apply ByteArray.ext
  subst h
  simp

set_option maxHeartbeats 4000000 in
set_option maxRecDepth 1000000 in
theorem quotes_walk (a : List Int) (t : ByteArray) (ao : Option Addr) (ca : Nat) (w : World) (hf : Fit w) (ha : IntsAt w ao a) (hla : a.length ≤ 9223372036854775807) (ht : t.size ≤ 9223372036854775807) :
    Calls Tryd.prog 4 #[.slice ao a.length ca, .string t] w fun e w' => e = .returned (.bool true) ∧ Below w.heap.size w w' := by
  go_enter Tryd.func4, Tryd.ntmps4
  go_wp2_with fail
  refine (known_any _ hf).mono ?_
  rintro e w1 ⟨rfl, b1⟩
  have ha1 := ha.below b1
  have hf1 := hf.below b1
  clear hf ha
  by_cases hl : 300 < t.size
  · go_wp2
    go_ret
    exact ⟨rfl, b1⟩
  · go_wp2_with fail
    refine (lawOf_txt a ao ca _ hla ha1).mono ?_
    rintro e w2 ⟨s, rfl, hs, hsz, b2⟩
    have hf2 := hf1.below b2
    have bw2 := b1.trans (b2.mono b1.size)
    clear ha1 hf1
    go_wp2_with fail
    refine (quote_fit s _ hf2 (by omega)).mono ?_
    rintro e w3 ⟨rfl, b3⟩
    have bw3 := bw2.trans (b3.mono bw2.size)
    clear hf2
    obtain ⟨q, hq⟩ : ∃ q : ByteArray, q = ⟨(quoteL s.data.toList).toArray⟩ := ⟨_, rfl⟩
    rw [← hq]
    have hq1 : q.data.toList = quoteL (ofL (picks a)) := by rw [hq, hs]; rfl
    have hqz : q.size ≤ 1000 := by rw [Lib.size_eq, hq1]; exact quoteL_txt_len a
    have hrd : rd (q ++ t).data.toList = (s.data.toList, (q.size : Int), 0) := by
      rw [app_list, hq1, rd_quote _ (picks_ok a), Lib.size_eq q, hq1, hs]
      rfl
    have hqt : (q ++ t).size ≤ 2000 := by rw [Lib.size_eq, app_list, List.length_append, ← Lib.size_eq, ← Lib.size_eq]; omega
    have hrq : (⟨(bquote s.data.toList).toArray⟩ : ByteArray) = q := ba_of_list (by rw [hq1, hs]; exact (bquote_ofL _ (picks_ok a)).symm)
    have HRD := hide hrd
    have HRQ := hide hrq
    have HQT := hide hqt
    clear hrd hrq hqt hq hq1 hs
    go_wp2_with fail
    refine (read_any _ _ (Nat.le_trans (unhide HQT) (by decide))).mono ?_
    rintro e w4 ⟨rfl, b4⟩
    rw [unhide HRD]
    have bw4 := bw3.trans (b4.mono bw3.size)
    dsimp only
    rw [show (⟨s.data.toList.toArray⟩ : ByteArray) = s from ba_of_list rfl]
    go_wp2_with fail
    refine (rquote_any s _ (by omega)).mono ?_
    rintro e w5 ⟨rfl, rfl⟩
    rw [unhide HRQ]
    go_wp2
    go_ret
    refine ⟨?_, bw4⟩
    simp
end Go.Proofs.YtiokpdpegkbgiaaDoor
