/-
  chancellaw1.TextLike returns true, for every two slices of ints.
-/
import Derived.Test.YtkgjdddoadnhcaaDoorLikeV
import Derived.Test.YtkgjdddoadnhcaaDoorKnown
namespace Go.Proofs.YtkgjdddoadnhcaaDoor
open Go.RowKit

/-- Both answers, as truths. -/
theorem like_both (a p : List Int) (bb : Bool) (h : bb = true ↔ MR (picks p) (picks a)) : likeL (txt p) (txt a) false [] = bb := by
  have h1 : likeL (txt p) (txt a) false [] = true ↔ bb = true := by
    rw [like_iff, h]
    exact mt_iff_mr (picks p) (picks a) (picks_ok p) (picks_ok a)
  cases h2 : likeL (txt p) (txt a) false [] <;> cases bb
  · rfl
  · rw [h2] at h1
    exact absurd (h1.2 rfl) (by decide)
  · rw [h2] at h1
    exact absurd (h1.1 rfl) (by decide)
  · rfl

set_option maxHeartbeats 1000000 in
set_option maxRecDepth 100000 in
theorem like_walk (a p : List Int) (ao bo : Option Addr) (ca cb : Nat) (w : World) (hf : Fit w) (ha : IntsAt w ao a) (hb : IntsAt w bo p) (hla : a.length ≤ 9223372036854775807) (hlb : p.length ≤ 9223372036854775807) :
    Calls Tryd.prog 4 #[.slice ao a.length ca, .slice bo p.length cb] w fun e w' => e = .returned (.bool true) ∧ Below w.heap.size w w' := by
  go_enter Tryd.func4, Tryd.ntmps4
  go_wp2_with fail
  refine (known_any _ hf).mono ?_
  rintro e w1 ⟨rfl, b1⟩
  have hf1 := hf.below b1
  have ha1 := ha.below b1
  have hb1 := hb.below b1
  go_wp2_with fail
  refine (lawOf_txt a ao ca _ hla ha1).mono ?_
  rintro e w2 ⟨s, rfl, hs, hsz, b2⟩
  have b12 := b1.trans (b2.mono b1.size)
  have hf2 := hf1.below b2
  have hb2 := hb1.below b2
  go_wp2_with fail
  refine (lawOf_txt p bo cb _ hlb hb2).mono ?_
  rintro e w3 ⟨q, rfl, hq, hqz, b3⟩
  have b13 := b12.trans (b3.mono b12.size)
  have hf3 := hf2.below b3
  have HS := hide hs
  have HQ := hide hq
  clear hs hq
  go_wp2_with fail
  refine (like_fit s q _ hf3 (by omega) (by omega)).mono ?_
  rintro e w4 ⟨rfl, b4⟩
  have b14 := b13.trans (b4.mono b13.size)
  have RL := fun W => rlike_any s q (picks a) (picks p) W (by rw [unhide HS]; exact runes_ofL _ (picks_ok a)) (by rw [unhide HQ]; exact runes_ofL _ (picks_ok p)) hsz hqz (by rw [unhide HS]; exact okL_ofL _ (picks_ok a)) (by rw [unhide HQ]; exact okL_ofL _ (picks_ok p)) (picks_len a) (picks_len p)
  rw [unhide HS, unhide HQ]
  go_wp2_with fail
  refine (RL _).mono ?_
  rintro e w5 ⟨bb, rfl, hbb, b5⟩
  rw [like_both a p bb hbb]
  have b15 := b14.trans (b5.mono b14.size)
  clear RL hbb
  cases bb
  · go_wp2
    go_ret
    exact ⟨rfl, b15⟩
  · go_wp2
    go_ret
    exact ⟨rfl, b15⟩
end Go.Proofs.YtkgjdddoadnhcaaDoor
